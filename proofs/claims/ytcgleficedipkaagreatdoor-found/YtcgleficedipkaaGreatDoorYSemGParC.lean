/- A search that begins anew ahead of every character, by places of the program: plain. -/
import Derived.Test.YtcgleficedipkaaGreatDoorYProTProR
import Derived.ArgAppend
import Derived.OwnWalk
namespace Go.Proofs.YtcgleficedipkaaGreatDoor
section
namespace Sm
variable {lf:Tree->Nat->Prop} {ah:Int->Nat->Prop}
def Come (lf:Tree->Nat->Prop)(ah:Int->Nat->Prop)(N:List Stp)(s i q:Nat):Prop:=∃ i0,i0<=i/\Goes lf ah N s i0 q i
def Stands (lf:Tree->Nat->Prop)(ah:Int->Nat->Prop)(N:List Stp)(s i:Nat)(ps:List Nat):Prop:=∀ q,(∃ p∈ps,Goes lf ah N p i q i)↔Come lf ah N s i q
theorem Ky (N:List Stp)(s:Nat):Stands lf ah N s 0 [s]:=by
 intro q;constructor
 ·rintro ⟨p,hp,g⟩;obtain rfl:=xf.1 hp;exact ⟨0,z8 _,g⟩
 ·rintro ⟨i0,h,g⟩;obtain rfl:i0=0:=by omega
  exact ⟨s,xf.2 rfl,g⟩
def VO (lf:Tree->Nat->Prop)(ah:Int->Nat->Prop)(N:List Stp)(s n:Nat):Prop:=∃ i,i<n/\Come lf ah N s i 0
theorem km {N:List Stp}{s i:Nat}:VO lf ah N s (i+1)↔VO lf ah N s i\/Come lf ah N s i 0:=by
 constructor
 ·rintro ⟨j,hj,h⟩;by_cases e:j=i
  ·subst e;exact .inr h
  ·exact .inl ⟨j,by omega,h⟩
 ·rintro (⟨j,hj,h⟩ |h)
  ·exact ⟨j,by omega,h⟩
  ·exact ⟨i,by omega,h⟩
theorem zcB {N:List Stp}{s n:Nat}:VO lf ah N s (n+1)↔∃ i j,i<=n/\j<=n/\Goes lf ah N s i 0 j:=by
 constructor
 ·rintro ⟨j,hj,i,hi,g⟩;exact ⟨i,j,by omega,by omega,g⟩
 ·rintro ⟨i,j,_,hj,g⟩;exact ⟨j,by omega,i,g.le,g⟩
end Sm
end
section
open Go.RowKit
theorem xH {P:Program}(w:World){ops:Array Oper}{rest:List Oper}{o:Oper}{a:Act}{Q:Exit->Act->World->Prop}(hgd:o.guard=none)(s x:Operand)(t:TypeId)
  (ho:o.op = .call { callee:=.builtin .append,args:=#[s,x],argTypes:=#[t,t] })
  (base:Nat) (e:TypeId) (i:TypeInfo) (z:Value) (size bytes:Nat) (ht:P.underlying t=some (.slice e)) (hi:P.info? e=some i) (hz:i.zero=some z)
  (hsize:i.size=size) (hby:i.bytes=bytes) (hzs:z.cells.size=size) (hsz:0<size)
  (v:Value) (n:Nat) (xs:List Value) (hs:a.eval s=v) (hown:w.ownsRow base e size v n xs)
  (ad:Addr) (m c:Nat) (news:List Value) (hx:a.eval x = .slice (some ad) m c) (hl:news.length=m*size) (hnews:∀ j u,news[j]?=some u->w.cell? (ad.add j)=some u) (h1:∀ u∈news,u.oneCell'=true)
  (h63:n+m<=maxLen) (hbytes:(n+m)*bytes<=140737488355328) (hbase:base<=w.heap.size)
  (h:∀ v' w',w'.ownsRow base e size v' (n+m) (xs++news)->w.grownBy w' v.ownBlock->(∀ k,v'.ownBlock=some k->v.ownBlock=some k\/w.heap.size<=k)->wpList P ops Q rest (a.put o.dst v') w'):wpList P ops Q (o :: rest) a w:=by
 have hgr:∀ w' row,w.grownBy w' none->w.grownBy w' row:=fun w' row g=>⟨g.os,g.tape,g.output,g.size,fun k hk _=>g.block k hk (by simp)⟩
 rcases hown.2 with ⟨rfl,rfl⟩ |⟨g,cap,cur,rfl,hbg,hg,hnc,hcm,hcs,htake⟩
 ·have hxs:xs=[]:=qg (by simpa using hown.1);subst hxs;by_cases hm:m=0
  ·subst hm;exact wpList_append_own w hgd s x t ho base e i z size bytes ht hi hz hsize hby hzs hsz _ 0 [] hs hown ad 0 c news hx hl hnews h1 h63 hbytes hbase (fun v' w' h2 h3 h4=>h v' w' h2 h3 (fun k hk=>by
    have:v' = .slice none 0 0:=h4.2 ⟨rfl,rfl⟩;subst this;simp [Value.ownBlock] at hk))
  ·exact wpList_append_grows w hgd s x t ho e i z size bytes ht hi hz hsize hby hzs hsz none 0 0 [] hs (fun _=>⟨rfl,rfl⟩) (by simp) (fun b hb=>by cases hb) ad m c news hx hl hnews h1 (by omega) h63 hbytes (fun v' w' h2 h3=>h v' w' (xd h2 hbase) (hgr _ _ h3) (fun k hk=>.inr (h2.lt k hk).1))
 ·by_cases hroom:n+m<=cap
  ·exact wpList_append_fits w hgd s x t ho base e i size ht hi hsize g n cap xs hs hown ad m c news hx hl hnews h1 hroom (fun w' h2 h3=>h _ w' h2 h3 (fun k hk=>.inl hk))
  ·exact wpList_append_grows w hgd s x t ho e i z size bytes ht hi hz hsize hby hzs hsz (some ⟨g,0,none⟩) n cap xs hs (fun hh=>by cases hh) hown.1 (fun b hb=>by cases hb;exact hown.cells (g:=g) rfl) ad m c news hx hl hnews h1 (by omega) h63 hbytes (fun v' w' h2 h3=>h v' w' (xd h2 hbase) (hgr _ _ h3) (fun k hk=>.inr (h2.lt k hk).1))
namespace Pro
def sumS:Int->List Int->Int
 |t,[]=>t
 |t,z :: r=>sumS (min (t+z) 301) r
def repS (z l m:Int):Int:=if m = -1 then max l 1*z+1 else l*z+(m-l)*(z+1)
end Pro
def kI (w:World)(A:Nat->Prop)(sv:Value)(xs:List Value):Prop:=
 (sv = .slice none 0 0/\xs=[])\/∃ g cap,sv = .slice (some ⟨g,0,none⟩) xs.length cap/\A g/\xs.length<=cap/\g<w.heap.size/\∀ j x,xs[j]?=some x->w.cell? ⟨g,j,none⟩=some x
def leafT (T:TypeId):Prop:=T=162\/T=246\/T=247\/T=248\/T=252
def ye:Nat->World->(Nat->Prop)->Value->Int->Prop
 |0,_,_,_,_=>False
 |f+1,w,A,v,z=>
  (z=1/\∃ T x,leafT T/\v = .iface T x)\/
  (∃ sv xs zs,v = .iface 243 sv/\kI w A sv xs/\xs.length<=1000/\zs.length=xs.length/\(∀ (j:Nat) x z',xs[j]?=some x->zs[j]?=some z'->ye f w A x z')/\0<xs.length/\z=min (Pro.sumS 0 zs+xs.length-1) 301)\/
  (∃ sv xs zs,v = .iface 254 sv/\kI w A sv xs/\xs.length<=1000/\zs.length=xs.length/\(∀ (j:Nat) x z',xs[j]?=some x->zs[j]?=some z'->ye f w A x z')/\z=Pro.sumS 0 zs)\/
  (∃ p l m z',v = .iface 256 (.agg #[p,.int .i64 l,.int .i64 m])/\ye f w A p z'/\0<=l/\l<=100/\-1<=m/\m<=100/\(m = -1\/l<=m)/\z=min (Pro.repS z' l m) 301)
theorem kI.keep {P A:Nat->Prop}{w w':World}{sv:Value}{xs:List Value}(h:kI w A sv xs)(k:ze P w w')(hn:∀ g,A g->¬P g):kI w' A sv xs:=by
 rcases h with h |⟨g,cap,h1,h2,h3,h4,h5⟩
 ·exact .inl h
 ·exact .inr ⟨g,cap,h1,h2,h3,yh h4 k.size,fun j x hj=>(k.cell (zE w _ (h5 j x hj)) (hn g h2)).trans (h5 j x hj)⟩
theorem kI.mono {A B:Nat->Prop}{w:World}{sv:Value}{xs:List Value}(h:kI w A sv xs)(hAB:∀ g,g<w.heap.size->A g->B g):kI w B sv xs:=by
 rcases h with h |⟨g,cap,h1,h2,h3,h4,h5⟩
 ·exact .inl h
 ·exact .inr ⟨g,cap,h1,hAB g h4 h2,h3,h4,h5⟩
theorem ye.keep {P A:Nat->Prop}{w w':World}(k:ze P w w')(hn:∀ g,A g->¬P g):∀ (f:Nat) (v:Value) (z:Int),ye f w A v z->ye f w' A v z
 |0,_,_,h=>h
 |f+1,v,z,h=>by
  rcases h with h |⟨sv,xs,zs,h1,h2,h0,h3,h4,h5,h6⟩ |⟨sv,xs,zs,h1,h2,h0,h3,h4,h5⟩ |⟨p,l,m,z',h1,h2,h3⟩
  ·exact .inl h
  ·exact .inr (.inl ⟨sv,xs,zs,h1,h2.keep k hn,h0,h3,fun j x z' hx hz=>ye.keep k hn f x z' (h4 j x z' hx hz),h5,h6⟩)
  ·exact .inr (.inr (.inl ⟨sv,xs,zs,h1,h2.keep k hn,h0,h3,fun j x z' hx hz=>ye.keep k hn f x z' (h4 j x z' hx hz),h5⟩))
  ·exact .inr (.inr (.inr ⟨p,l,m,z',h1,ye.keep k hn f p z' h2,h3⟩))
namespace Pro
theorem Yl:∀ (zs:List Int) (t:Int),0<=t->t<=301->(∀ z∈zs,0<=z)->0<=sumS t zs/\sumS t zs<=301
 | [],t,h0,h1,_=>⟨h0,h1⟩
 |z :: r,t,h0,h1,h=>by
  have hz:=h z (xF ..);exact Yl r (min (t+z) 301) (by omega) (by omega) (fun y hy=>h y (xp _ hy))
theorem XJ {z l m:Int}(hz:0<=z)(hl:0<=l)(hm:m = -1\/l<=m):0<=repS z l m:=by
 unfold repS;split
 ·have:0<=max l 1*z:=wg (by omega) hz;omega
 ·have h1:0<=l*z:=wg hl hz;have h2:0<=(m-l)*(z+1):=wg (by omega) (by omega);omega
end Pro
theorem j5 {α:Type}{l:List α}{x:α}(h:x∈l):∃ j:Nat,l[j]?=some x:=by
 obtain ⟨j,hj,e⟩:=X4 h;exact ⟨j,by rw [zD hj,e]⟩
theorem ye.bd {A:Nat->Prop}{w:World}:∀ (f:Nat) (v:Value) (z:Int),ye f w A v z->0<=z/\z<=301
 |0,_,_,h=>h.elim
 |f+1,v,z,h=>by
  have key:∀ (xs:List Value) (zs:List Int),zs.length=xs.length->(∀ (j:Nat) x z',xs[j]?=some x->zs[j]?=some z'->ye f w A x z')->∀ y∈zs,0<=y:=by
   intro xs zs hl hh y hy;obtain ⟨j,hj⟩:=j5 hy;have hjl:j<xs.length:=by
    by_cases hlt:j<zs.length
    ·omega
    ·rw [jF (by omega)] at hj;cases hj
   exact (ye.bd f _ _ (hh j xs[j] y (zD hjl) hj)).1
  rcases h with ⟨h,_⟩ |⟨sv,xs,zs,h1,h2,h0,h3,h4,h5,h6⟩ |⟨sv,xs,zs,h1,h2,h0,h3,h4,h5⟩ |⟨p,l,m,z',h1,h2,h3,h4,h5,h6,h7,h8⟩
  ·omega
  ·have:=Pro.Yl zs 0 (by omega) (by omega) (key xs zs h3 h4);omega
  ·have:=Pro.Yl zs 0 (by omega) (by omega) (key xs zs h3 h4);omega
  ·have:=ye.bd f p z' h2;have:=Pro.XJ this.1 h3 h7;omega
def Sizes (f:Nat)(w:World)(A:Nat->Prop)(xs:List Value)(zs:List Int):Prop:=zs.length=xs.length/\∀ (j:Nat) x z',xs[j]?=some x->zs[j]?=some z'->ye f w A x z'
namespace Pro
section
variable (L:List (Int×Int)) (len:Int)
def zS (n:Nat):Out:=
 if zf L (n+1)=63 then
  (if zf L (n+2)=58 then good 0 (n+3)
   else if zf L (n+2)=61\/zf L (n+2)=33\/zf L (n+2)=60 then bad 6 (zC L len n) (n+2)
   else bad 3 (zC L len (n+2)) (n+2))
 else good 0 (n+1)
def asN (n:Nat):Nat:=if zf L n=94\/zf L n=36 then 1 else if zf L n=92/\(zf L (n+1)=98\/zf L (n+1)=66) then 2 else 0
def ZI (c:Int):Bool:=(c == 42) ||(c == 43) ||(c == 63) ||(c == 123) ||(c == 125) ||(c == 93)
def one (o:Out):Out:=if o.k=0 then good 1 o.n else o
def zL (D:Nat->Out)(n:Nat):Out:=
 if ZI (zf L n)=true then bad 3 (zC L len n) n
 else if zf L n=40 then D n
 else if zf L n=91 then one (qf L len n)
 else if zf L n=92 then one (escO L len n)
 else good 1 (n+1)
def qE (alt:Nat->Out)(n:Nat):Out:=
 if (zS L len n).k≠0 then zS L len n
 else if (alt (zS L len n).n).k≠0 then alt (zS L len n).n
 else if zf L (alt (zS L len n).n).n=41 then good (alt (zS L len n).n).v ((alt (zS L len n).n).n+1)
 else bad 3 (zC L len (alt (zS L len n).n).n) (alt (zS L len n).n).n
def zV (D:Nat->Out)(n:Nat):Out:=
 if asN L n≠0 then good 1 (n+asN L n)
 else if (zL L len D n).k≠0 then zL L len D n
 else if (zu L len (zL L len D n).n).1=false then zL L len D n
 else if (zu L len (zL L len D n).n).2.1.k≠0 then (zu L len (zL L len D n).n).2.1
 else good (min (repS (zL L len D n).v (zu L len (zL L len D n).n).2.1.v (zu L len (zL L len D n).n).2.2) 301) (jR L (zu L len (zL L len D n).n).2.1.n)
def yx (n:Nat):Bool:=decide (L.length<=n) ||decide (zf L n=124) ||decide (zf L n=41)
def yp (D:Nat->Out):Nat->Int->Nat->Out
 |0,s,n=>good s n
 |f+1,s,n=>if yx L n=true then good s n
  else if (zV L len D n).k≠0 then zV L len D n
  else yp D f (min (s+(zV L len D n).v) 301) (zV L len D n).n
def zw (D:Nat->Out)(n:Nat):Out:=yp L len D (L.length+1-n) 0 n
def altO (D:Nat->Out):Nat->List Int->Nat->Out
 |0,_,n=>good 0 n
 |f+1,zs,n=>if (zw L len D n).k≠0 then zw L len D n
  else if zf L (zw L len D n).n=124 then altO D f (zs++[(zw L len D n).v]) ((zw L len D n).n+1)
  else good (min (sumS 0 (zs++[(zw L len D n).v])+((zs.length:Int)+1)-1) 301) (zw L len D n).n
def altP (D:Nat->Out)(n:Nat):Out:=altO L len D (L.length+1-n) [] n
def zl:Nat->Nat->Out
 |0,n=>bad 7 (zC L len n) n
 |r+1,n=>qE L len (altP L len (zl r)) n
end
def DOK (L:List (Int×Int))(D:Nat->Out):Prop:=∀ n,n<L.length->n<=(D n).n/\(D n).n<=L.length/\((D n).k=0->n<(D n).n/\0<=(D n).v/\(D n).v<=301)
section
variable {L:List (Int×Int)} {len:Int} {D:Nat->Out}
theorem wI (n:Nat)(h:n<L.length):n<(zS L len n).n/\(zS L len n).n<=L.length:=by
 unfold zS;split
 ·have h1:n+1<L.length:=zq (by omega);split
  ·have h2:n+2<L.length:=zq (by omega);simp only [good];omega
  ·split
   ·simp only [bad];omega
   ·simp only [bad];omega
 ·simp only [good];omega
theorem asN_in (n:Nat)(h:asN L n≠0):n<n+asN L n/\n+asN L n<=L.length:=by
 refine ⟨by omega,?_⟩;unfold asN at h ⊢;split
 ·have:=zq (L:=L) (n:=n) (by omega);omega
 ·split
  ·have:=zq (L:=L) (n:=n+1) (by omega);omega
  ·rename_i h1 h2;rw [if_neg h1,if_neg h2] at h;exact absurd rfl h
theorem one_n (o:Out):(one o).n=o.n:=by unfold one;split<;>rfl
theorem one_k (o:Out):(one o).k=o.k:=by unfold one;split<;>simp_all [good]
theorem one_v (o:Out)(h:o.k=0):(one o).v=1:=by unfold one;rw [if_pos h];rfl
theorem zcC (n:Nat)(h:n<L.length):n<(qf L len n).n/\(qf L len n).n<=L.length:=by
 unfold qf;split
 ·have:=zq (L:=L) (n:=n+1) (by omega);have:=YV (L:=L) (len:=len) (L.length+1-n) (n+2) (by omega);omega
 ·have:=YV (L:=L) (len:=len) (L.length+1-n) (n+1) (by omega);omega
theorem QC (hD:DOK L D)(n:Nat)(h:n<L.length):n<=(zL L len D n).n/\(zL L len D n).n<=L.length/\((zL L len D n).k=0->n<(zL L len D n).n/\0<=(zL L len D n).v/\(zL L len D n).v<=301):=by
 unfold zL;split
 ·simp only [bad];omega
 split
 ·exact hD n h
 split
 ·have:=zcC (L:=L) (len:=len) n h;rw [one_n,one_k];exact ⟨by omega,by omega,fun hk=>by rw [one_v _ hk];omega⟩
 split
 ·have:=zaN (L:=L) (len:=len) n h;rw [one_n,one_k];exact ⟨by omega,by omega,fun hk=>by rw [one_v _ hk];omega⟩
 ·simp only [good];omega
theorem lazyN_in (n:Nat)(h:n<=L.length):n<=jR L n/\jR L n<=L.length:=by
 unfold jR;split
 ·have:=zq (L:=L) (n:=n) (by omega);omega
 ·omega
theorem YY (n:Nat)(h:n<=L.length):n<=(zu L len n).2.1.n/\(zu L len n).2.1.n<=L.length/\((zu L len n).1=false->(zu L len n).2.1.n=n):=by
 unfold zu;split
 ·have:=zq (L:=L) (n:=n) (by omega);simp [good];omega
 split
 ·have:=zq (L:=L) (n:=n) (by omega);simp [good];omega
 split
 ·have:=zq (L:=L) (n:=n) (by omega);simp [good];omega
 split
 ·have h1:=zq (L:=L) (n:=n) (by omega);have:=Qy (len:=len) n h1;simp;omega
 ·simp [good];omega
theorem zcD (n:Nat)(h:n<L.length)(hk:(zJ L len n).1.k=0):0<=(zJ L len n).1.v/\(zJ L len n).1.v<=100/\-1<=(zJ L len n).2/\(zJ L len n).2<=100/\((zJ L len n).2 = -1\/(zJ L len n).1.v<=(zJ L len n).2):=by
 have ha:=qV (L:=L) (len:=len) (n+1) (by omega);unfold zJ at hk ⊢;simp only [] at hk ⊢;split
 ·rename_i h1;rw [if_pos h1] at hk;exact absurd hk h1
 rename_i h1;rw [if_neg h1] at hk;split
 ·simp [good];omega
 rename_i h2;rw [if_neg h2] at hk;split
 ·rename_i h3;rw [if_pos h3] at hk;cases hk
 rename_i h3;rw [if_neg h3] at hk;have hl:=zq (L:=L) (n:=(zj L len (n+1)).n) (by omega);split
 ·simp [good];omega
 rename_i h4;rw [if_neg h4] at hk;have hm:=qV (L:=L) (len:=len) ((zj L len (n+1)).n+1) (by omega);split
 ·rename_i h5;rw [if_pos h5] at hk;exact absurd hk h5
 rename_i h5;rw [if_neg h5] at hk;split
 ·rename_i h6;rw [if_pos h6] at hk;cases hk
 rename_i h6;rw [if_neg h6] at hk;split
 ·rename_i h7;rw [if_pos h7] at hk;cases hk
 ·simp [good];omega
theorem VP (n:Nat)(hq:(zu L len n).1=true)(hk:(zu L len n).2.1.k=0):0<=(zu L len n).2.1.v/\(zu L len n).2.1.v<=100/\-1<=(zu L len n).2.2/\(zu L len n).2.2<=100/\((zu L len n).2.2 = -1\/(zu L len n).2.1.v<=(zu L len n).2.2):=by
 unfold zu at hq hk ⊢;split
 ·simp [good]
 rename_i h1;rw [if_neg h1] at hq hk;split
 ·simp [good]
 rename_i h2;rw [if_neg h2] at hq hk;split
 ·simp [good]
 rename_i h3;rw [if_neg h3] at hq hk;split
 ·rename_i h4;rw [if_pos h4] at hk;exact zcD n (zq (by omega)) hk
 ·rename_i h4;rw [if_neg h4] at hq;cases hq
theorem Ym (hD:DOK L D)(n:Nat)(h:n<L.length):n<=(zV L len D n).n/\(zV L len D n).n<=L.length/\((zV L len D n).k=0->n<(zV L len D n).n/\0<=(zV L len D n).v/\(zV L len D n).v<=301):=by
 have ha:=QC (len:=len) hD n h;have hq:=YY (L:=L) (len:=len) (zL L len D n).n ha.2.1;unfold zV;split
 ·rename_i h1;have:=asN_in (L:=L) n h1;simp only [good];omega
 split
 ·rename_i h1 h2;exact ⟨ha.1,ha.2.1,fun hk=>absurd hk h2⟩
 rename_i h1 h2;have h2':(zL L len D n).k=0:=by omega
 split
 ·exact ha
 rename_i h3;split
 ·rename_i h4;exact ⟨by omega,by omega,fun hk=>absurd hk h4⟩
 ·rename_i h4;have h4':(zu L len (zL L len D n).n).2.1.k=0:=by omega
  have hl:=lazyN_in (L:=L) (zu L len (zL L len D n).n).2.1.n hq.2.1;have hv:=VP (L:=L) (len:=len) (zL L len D n).n (by simpa using h3) h4';have hr:=XJ (z:=(zL L len D n).v) (ha.2.2 h2').2.1 hv.1 hv.2.2.2.2;have:=(ha.2.2 h2').1;simp only [good];omega
theorem Jw (hD:DOK L D):∀ (f:Nat) (s:Int) (n:Nat),n<=L.length->0<=s->s<=301->n<=(yp L len D f s n).n/\(yp L len D f s n).n<=L.length/\((yp L len D f s n).k=0->0<=(yp L len D f s n).v/\(yp L len D f s n).v<=301)
 |0,s,n,h,h0,h1=>by simp only [yp,good];omega
 |f+1,s,n,h,h0,h1=>by
  simp only [yp];split
  ·simp only [good];omega
  ·rename_i hs;have hlt:n<L.length:=(by unfold yx at hs;simp at hs;omega);have ht:=Ym (len:=len) hD n hlt;split
   ·rename_i hk;exact ⟨ht.1,ht.2.1,fun hk'=>absurd hk' hk⟩
   ·rename_i hk;have hk':(zV L len D n).k=0:=(by omega);have hv:=ht.2.2 hk';have:=Jw hD f (min (s+(zV L len D n).v) 301) (zV L len D n).n ht.2.1 (by omega) (by omega);omega
theorem vk (hD:DOK L D)(n:Nat)(h:n<=L.length):n<=(zw L len D n).n/\(zw L len D n).n<=L.length/\((zw L len D n).k=0->0<=(zw L len D n).v/\(zw L len D n).v<=301):=Jw hD _ 0 n h (by omega) (by omega)
theorem zaS (hD:DOK L D):∀ (f:Nat) (zs:List Int) (n:Nat),n<=L.length->(∀ z∈zs,0<=z)->n<=(altO L len D f zs n).n/\(altO L len D f zs n).n<=L.length/\((altO L len D f zs n).k=0->0<=(altO L len D f zs n).v/\(altO L len D f zs n).v<=301)
 |0,zs,n,h,hz=>by simp only [altO,good];omega
 |f+1,zs,n,h,hz=>by
  have ht:=vk (len:=len) hD n h;simp only [altO];split
  ·rename_i hk;exact ⟨ht.1,ht.2.1,fun hk'=>absurd hk' hk⟩
  rename_i hk;have hk':(zw L len D n).k=0:=by omega
  have hz':∀ z∈zs++[(zw L len D n).v],0<=z:=by
   intro z hzm;rcases qe.1 hzm with hm |hm
   ·exact hz z hm
   ·simp at hm;have:=(ht.2.2 hk').1;omega
  split
  ·have h1:=zq (L:=L) (n:=(zw L len D n).n) (by omega);have:=zaS hD f (zs++[(zw L len D n).v]) ((zw L len D n).n+1) (by omega) hz';omega
  ·have:=Yl (zs++[(zw L len D n).v]) 0 (by omega) (by omega) hz';simp only [good];omega
theorem yF (hD:DOK L D)(n:Nat)(h:n<=L.length):n<=(altP L len D n).n/\(altP L len D n).n<=L.length/\((altP L len D n).k=0->0<=(altP L len D n).v/\(altP L len D n).v<=301):=zaS hD _ [] n h (by simp)
theorem zQ:∀ r,DOK L (zl L len r)
 |0=>fun n h=>by simp only [zl,bad];omega
 |r+1=>fun n h=>by
  have ho:=wI (L:=L) (len:=len) n h;have ha:=yF (len:=len) (zQ r) (zS L len n).n ho.2;simp only [zl];unfold qE;split
  ·rename_i hk;exact ⟨by omega,by omega,fun hk'=>absurd hk' hk⟩
  split
  ·rename_i hk;exact ⟨by omega,by omega,fun hk'=>absurd hk' hk⟩
  rename_i hk1 hk2;have hk2':(altP L len (zl L len r) (zS L len n).n).k=0:=by omega
  have hv:=ha.2.2 hk2';split
  ·have h1:=zq (L:=L) (n:=(altP L len (zl L len r) (zS L len n).n).n) (by omega);simp only [good];omega
  ·simp only [bad];omega
end
end Pro
set_option maxHeartbeats 2000000
theorem Pro.sumS_append:∀ (zs:List Int) (t z:Int),Pro.sumS t (zs++[z])=min (Pro.sumS t zs+z) 301
 | [],_t,_z=>rfl
 |y :: r,t,z=>Pro.sumS_append r (min (t+y) 301) z
def Opens (b:Nat)(L:List (Int×Int))(len dp:Int)(a:Nat->Addr)(w:World)(o:Pro.Out)(x:Ending)(w':World):Prop:=
 Trk w.heap.size w b L o.n len dp a w'/\((o.k=0/\x = .returned .nilIface/\True)\/(o.k≠0/\∃ v,x = .returned v/\zI w' w.heap.size v (zN a o.k) o.p))
theorem kJ (b:Nat)(L:List (Int×Int))(n:Nat)(len dp:Int)(a:Nat->Addr)(w:World)(h:zR w b L n len dp)(hS:zW w a)(hb:11<=b)(hL:L.length<=400)(hn:n<L.length) :
  Calls Tryz.prog 251 #[.pointer (some ⟨b,0,none⟩)] w (Opens b L len dp a w (Pro.zS L len n)):=by
 have T:=zc (Trk.start h hS hb);have c1:=h.c1;have f1:=h.f1;have hs6:=hS.s6;clear h hS;by_cases h1:Pro.zf L (n+1)=63
 ·have m1:Pro.zr L (n+1) { data:=#[63] }=true:=by rw [Pro.zp L (n+1) 63 63 rfl];simp [h1]
  have hlt:=Pro.zq (L:=L) (n:=n+1) (by omega);by_cases h2:Pro.zf L (n+2)=58
  ·have m2:Pro.zr L (n+1+1) { data:=#[58] }=true:=(by rw [Pro.zp L (n+1+1) 58 58 rfl];simp [h2]);have HO:Hid (Pro.zS L len n=Pro.good 0 (n+3)):=(by unfold Pro.zS;rw [if_pos h1,if_pos h2];rfl);clear h1 h2;go_enter Tryz.func251,Tryz.ntmps251;go_wp2_with (first |(go_at_call 114;refine (yE (n:=n) (by exact zb T) hL (by omega)).mono ?_;rintro e wq ⟨rfl,qq,rfl⟩) |(go_at_call 113;refine (jM (n:=n+1) _ (by exact ((zb T).drewN _).setN _ _ (by omega)) hL (by omega) (by decide) (by assumption)).mono ?_;rintro e wq ⟨rfl,tq⟩;have tq:Trk _ _ b L ((n+1)+1) len dp a wq:=tq;have T:=zc tq;have c1:=tq.c1;have f1:=tq.f1) |(go_at_call 113;refine (jM (n:=n+1+1) _ (by exact zb T) hL (by omega) (by decide) (by assumption)).mono ?_;rintro e wq ⟨rfl,tq⟩;have tq:Trk _ _ b L ((n+1+1)+1) len dp a wq:=tq;have T:=zc tq;have c1:=tq.c1;have f1:=tq.f1));go_ret;rw [zb HO];exact ⟨zb T,.inl ⟨rfl,rfl,trivial⟩⟩
  ·have m2:Pro.zr L (n+1+1) { data:=#[58] }=false:=(by rw [Pro.zp L (n+1+1) 58 58 rfl];simp [h2]);by_cases h3:Pro.zf L (n+2)=61\/Pro.zf L (n+2)=33\/Pro.zf L (n+2)=60
   ·have HO:Hid (Pro.zS L len n=Pro.bad 6 (Pro.zC L len n) (n+2)):=(by unfold Pro.zS;rw [if_pos h1,if_neg h2,if_pos h3];rfl);have h3':((Pro.zf L (n+2) == 61)=true)\/((Pro.zf L (n+2) == 61)=false/\(Pro.zf L (n+2) == 33)=true)\/((Pro.zf L (n+2) == 61)=false/\(Pro.zf L (n+2) == 33)=false/\(Pro.zf L (n+2) == 60)=true):=by
     by_cases q1:Pro.zf L (n+2)=61
     ·left;simp [q1]
     ·right;by_cases q2:Pro.zf L (n+2)=33
      ·left;simp [q2]
      ·right;exact ⟨by simp [q1],by simp [q2],by simp;omega⟩
    clear h1 h2 h3;rcases h3' with q1 |⟨q1,q2⟩ |⟨q1,q2,q3⟩
    all_goals
     go_enter Tryz.func251,Tryz.ntmps251;go_wp2_with (first |(go_at_call 114;refine (yE (n:=n) (by exact zb T) hL (by omega)).mono ?_;rintro e wq ⟨rfl,qq,rfl⟩) |(go_at_call 113;refine (jM (n:=n+1) _ (by exact ((zb T).drewN _).setN _ _ (by omega)) hL (by omega) (by decide) (by assumption)).mono ?_;rintro e wq ⟨rfl,tq⟩;have tq:Trk _ _ b L ((n+1)+1) len dp a wq:=tq;have T:=zc tq;have c1:=tq.c1;have f1:=tq.f1);(have hs6:=(zb T).se.s6) |(go_at_call 113;refine (y8 (n:=n+1+1) _ (by exact zb T) hL (by omega) (by decide) (by assumption)).mono ?_;rintro e wq ⟨rfl,qq,rfl⟩) |(go_at_call 157;refine Q7 (yH (n:=n+2) (by exact (zb T).drewN _) hL (by omega)) ?_) |(go_at_call 45;refine (Xl (n:=n+2) _ 6 _ _ rfl (by exact (zb T).drewN _)).mono ?_;rintro e wq ⟨v,rfl,hv,tq⟩;have T:=zc tq;have c1:=tq.c1;have f1:=tq.f1));go_ret;rw [zb HO];exact ⟨zb T,.inr ⟨(show (6:Nat)≠0 by decide),v,rfl,hv⟩⟩
   ·have HO:Hid (Pro.zS L len n=Pro.bad 3 (Pro.zC L len (n+2)) (n+2)):=(by unfold Pro.zS;rw [if_pos h1,if_neg h2,if_neg h3];rfl);have q1:(Pro.zf L (n+2) == 61)=false:=(by simp;omega);have q2:(Pro.zf L (n+2) == 33)=false:=(by simp;omega);have q3:(Pro.zf L (n+2) == 60)=false:=(by simp;omega);clear h1 h2 h3;go_enter Tryz.func251,Tryz.ntmps251;go_wp2_with (first |(go_at_call 114;refine (yE (n:=n) (by exact zb T) hL (by omega)).mono ?_;rintro e wq ⟨rfl,qq,rfl⟩) |(go_at_call 113;refine (jM (n:=n+1) _ (by exact ((zb T).drewN _).setN _ _ (by omega)) hL (by omega) (by decide) (by assumption)).mono ?_;rintro e wq ⟨rfl,tq⟩;have tq:Trk _ _ b L ((n+1)+1) len dp a wq:=tq;have T:=zc tq;have c1:=tq.c1;have f1:=tq.f1) |(go_at_call 113;refine (y8 (n:=n+1+1) _ (by exact zb T) hL (by omega) (by decide) (by assumption)).mono ?_;rintro e wq ⟨rfl,qq,rfl⟩) |(go_at_call 157;refine Q7 (yH (n:=n+2) (by exact (zb T).drewN _) hL (by omega)) ?_) |(go_at_call 64;refine (Yi (n:=n+2) (by exact (zb T).drewN _) hL (by omega)).mono ?_;rintro e wq ⟨v,rfl,hv,tq⟩;have T:=zc tq;have c1:=tq.c1;have f1:=tq.f1));go_ret;rw [zb HO];exact ⟨zb T,.inr ⟨(show (3:Nat)≠0 by decide),v,rfl,hv⟩⟩
 ·have m1:Pro.zr L (n+1) { data:=#[63] }=false:=by rw [Pro.zp L (n+1) 63 63 rfl];simp [h1]
  have HO:Hid (Pro.zS L len n=Pro.good 0 (n+1)):=by unfold Pro.zS;rw [if_neg h1];rfl
  clear h1;go_enter Tryz.func251,Tryz.ntmps251;go_wp2_with (first |(go_at_call 114;refine (yE (n:=n) (by exact zb T) hL (by omega)).mono ?_;rintro e wq ⟨rfl,qq,rfl⟩) |(go_at_call 113;refine (y8 (n:=n+1) _ (by exact ((zb T).drewN _).setN _ _ (by omega)) hL (by omega) (by decide) (by assumption)).mono ?_;rintro e wq ⟨rfl,qq,rfl⟩));go_ret;rw [zb HO];exact ⟨Trk.drewN (Trk.setN (by first |exact (zb T).drewN _ |exact zb T) (n+1) _ (by omega)) _,.inl ⟨rfl,rfl,trivial⟩⟩
end
end Go.Proofs.YtcgleficedipkaaGreatDoor
