/- Parts in memory, by their sizes; a row that grows apart from them. -/
import Derived.Test.YtnagphodmfejiaaGreatDoorX9
import Derived.ArgAppend
import Derived.OwnWalk
namespace Go.Proofs.YtnagphodmfejiaaGreatDoor
section
open Go.RowKit
theorem j7 {P:Program}(w:World){ops:Array Oper}{rest:List Oper}{o:Oper}{a:Act}{Q:Exit→Act→World→Prop}(hgd:o.guard=none)(s x:Operand)(t:TypeId)
  (ho:o.op = .call { callee:=.builtin .append,args:=#[s,x],argTypes:=#[t,t] })
  (base:Nat) (e:TypeId) (i:TypeInfo) (z:Value) (size bytes:Nat) (ht:P.underlying t=some (.slice e)) (hi:P.info? e=some i) (hz:i.zero=some z)
  (hsize:i.size=size) (hby:i.bytes=bytes) (hzs:z.cells.size=size) (hsz:0<size)
  (v:Value) (n:Nat) (xs:List Value) (hs:a.eval s=v) (hown:w.ownsRow base e size v n xs)
  (ad:Addr) (m c:Nat) (news:List Value) (hx:a.eval x = .slice (some ad) m c) (hl:news.length=m*size) (hnews:∀ j u,news[j]?=some u→w.cell? (ad.add j)=some u) (h1:∀ u∈news,u.oneCell'=true)
  (h63:n+m≤maxLen) (hbytes:(n+m)*bytes≤140737488355328) (hbase:base≤w.heap.size)
  (h:∀ v' w',w'.ownsRow base e size v' (n+m) (xs++news)→w.grownBy w' v.ownBlock→(∀ k,v'.ownBlock=some k→v.ownBlock=some k∨w.heap.size≤k)→wpList P ops Q rest (a.put o.dst v') w'):wpList P ops Q (o :: rest) a w:=by
 have hgr:∀ w' row,w.grownBy w' none→w.grownBy w' row:=fun w' row g=>⟨g.os,g.tape,g.output,g.size,fun k hk _=>g.block k hk (by simp)⟩
 rcases hown.2 with ⟨rfl,rfl⟩ |⟨g,cap,cur,rfl,hbg,hg,hnc,hcm,hcs,htake⟩
 ·have hxs:xs=[]:=List.eq_nil_of_length_eq_zero (by simpa using hown.1)
  subst hxs
  by_cases hm:m=0
  ·subst hm
   exact wpList_append_own w hgd s x t ho base e i z size bytes ht hi hz hsize hby hzs hsz _ 0 [] hs hown ad 0 c news hx hl hnews h1 h63 hbytes hbase (fun v' w' h2 h3 h4=>h v' w' h2 h3 (fun k hk=>by
    have:v' = .slice none 0 0:=h4.2 ⟨rfl,rfl⟩
    subst this
    simp [Value.ownBlock] at hk))
  ·exact wpList_append_grows w hgd s x t ho e i z size bytes ht hi hz hsize hby hzs hsz none 0 0 [] hs (fun _=>⟨rfl,rfl⟩) (by simp) (fun b hb=>by cases hb) ad m c news hx hl hnews h1 (by omega) h63 hbytes (fun v' w' h2 h3=>h v' w' (yD h2 hbase) (hgr _ _ h3) (fun k hk=>.inr (h2.lt k hk).1))
 ·by_cases hroom:n+m≤cap
  ·exact wpList_append_fits w hgd s x t ho base e i size ht hi hsize g n cap xs hs hown ad m c news hx hl hnews h1 hroom (fun w' h2 h3=>h _ w' h2 h3 (fun k hk=>.inl hk))
  ·exact wpList_append_grows w hgd s x t ho e i z size bytes ht hi hz hsize hby hzs hsz (some ⟨g,0,none⟩) n cap xs hs (fun hh=>by cases hh) hown.1 (fun b hb=>by cases hb;exact hown.cells (g:=g) rfl) ad m c news hx hl hnews h1 (by omega) h63 hbytes (fun v' w' h2 h3=>h v' w' (yD h2 hbase) (hgr _ _ h3) (fun k hk=>.inr (h2.lt k hk).1))
namespace Pro
def sumS:Int→List Int→Int
 |t,[]=>t
 |t,z :: r=>sumS (min (t+z) 301) r
def repS (z l m:Int):Int:=if m = -1 then max l 1*z+1 else l*z+(m-l)*(z+1)
end Pro
def vw (w:World)(A:Nat→Prop)(sv:Value)(xs:List Value):Prop:=
 (sv = .slice none 0 0∧xs=[])∨∃ g cap,sv = .slice (some ⟨g,0,none⟩) xs.length cap∧A g∧xs.length≤cap∧g<w.heap.size∧∀ j x,xs[j]?=some x→w.cell? ⟨g,j,none⟩=some x
def leafT (T:TypeId):Prop:=T=154∨T=244∨T=245∨T=246∨T=250
def yu:Nat→World→(Nat→Prop)→Value→Int→Prop
 |0,_,_,_,_=>False
 |f+1,w,A,v,z=>
  (z=1∧∃ T x,leafT T∧v = .iface T x)∨
  (∃ sv xs zs,v = .iface 228 sv∧vw w A sv xs∧xs.length≤1000∧zs.length=xs.length∧(∀ (j:Nat) x z',xs[j]?=some x→zs[j]?=some z'→yu f w A x z')∧0<xs.length∧z=min (Pro.sumS 0 zs+xs.length-1) 301)∨
  (∃ sv xs zs,v = .iface 252 sv∧vw w A sv xs∧xs.length≤1000∧zs.length=xs.length∧(∀ (j:Nat) x z',xs[j]?=some x→zs[j]?=some z'→yu f w A x z')∧z=Pro.sumS 0 zs)∨
  (∃ p l m z',v = .iface 254 (.agg #[p,.int .i64 l,.int .i64 m])∧yu f w A p z'∧0≤l∧l≤100∧-1≤m∧m≤100∧(m = -1∨l≤m)∧z=min (Pro.repS z' l m) 301)
theorem vw.keep {P A:Nat→Prop}{w w':World}{sv:Value}{xs:List Value}(h:vw w A sv xs)(k:zf P w w')(hn:∀ g,A g→¬P g):vw w' A sv xs:=by
 rcases h with h |⟨g,cap,h1,h2,h3,h4,h5⟩
 ·exact .inl h
 ·exact .inr ⟨g,cap,h1,h2,h3,Nat.lt_of_lt_of_le h4 k.size,fun j x hj=>(k.cell (World.block_lt_of_cell? w _ (h5 j x hj)) (hn g h2)).trans (h5 j x hj)⟩
theorem vw.mono {A B:Nat→Prop}{w:World}{sv:Value}{xs:List Value}(h:vw w A sv xs)(hAB:∀ g,g<w.heap.size→A g→B g):vw w B sv xs:=by
 rcases h with h |⟨g,cap,h1,h2,h3,h4,h5⟩
 ·exact .inl h
 ·exact .inr ⟨g,cap,h1,hAB g h4 h2,h3,h4,h5⟩
theorem yu.keep {P A:Nat→Prop}{w w':World}(k:zf P w w')(hn:∀ g,A g→¬P g):∀ (f:Nat) (v:Value) (z:Int),yu f w A v z→yu f w' A v z
 |0,_,_,h=>h
 |f+1,v,z,h=>by
  rcases h with h |⟨sv,xs,zs,h1,h2,h0,h3,h4,h5,h6⟩ |⟨sv,xs,zs,h1,h2,h0,h3,h4,h5⟩ |⟨p,l,m,z',h1,h2,h3⟩
  ·exact .inl h
  ·exact .inr (.inl ⟨sv,xs,zs,h1,h2.keep k hn,h0,h3,fun j x z' hx hz=>yu.keep k hn f x z' (h4 j x z' hx hz),h5,h6⟩)
  ·exact .inr (.inr (.inl ⟨sv,xs,zs,h1,h2.keep k hn,h0,h3,fun j x z' hx hz=>yu.keep k hn f x z' (h4 j x z' hx hz),h5⟩))
  ·exact .inr (.inr (.inr ⟨p,l,m,z',h1,yu.keep k hn f p z' h2,h3⟩))
namespace Pro
theorem ZU:∀ (zs:List Int)(t:Int),0≤t→t≤301→(∀ z∈zs,0≤z)→0≤sumS t zs∧sumS t zs≤301
 | [],t,h0,h1,_=>⟨h0,h1⟩
 |z :: r,t,h0,h1,h=>by
  have hz:=h z (List.mem_cons_self ..)
  exact ZU r (min (t+z) 301) (by omega) (by omega) (fun y hy=>h y (List.mem_cons_of_mem _ hy))
theorem wz {z l m:Int}(hz:0≤z)(hl:0≤l)(hm:m = -1∨l≤m):0≤repS z l m:=by
 unfold repS
 split
 ·have:0≤max l 1*z:=Int.mul_nonneg (by omega) hz
  omega
 ·have h1:0≤l*z:=Int.mul_nonneg hl hz
  have h2:0≤(m-l)*(z+1):=Int.mul_nonneg (by omega) (by omega)
  omega
end Pro
theorem kV {α:Type}{l:List α}{x:α}(h:x∈l):∃ j:Nat,l[j]?=some x:=by
 obtain ⟨j,hj,e⟩:=List.getElem_of_mem h
 exact ⟨j,by rw [List.getElem?_eq_getElem hj,e]⟩
theorem yu.bd {A:Nat→Prop}{w:World}:∀ (f:Nat) (v:Value) (z:Int),yu f w A v z→0≤z∧z≤301
 |0,_,_,h=>h.elim
 |f+1,v,z,h=>by
  have key:∀ (xs:List Value) (zs:List Int),zs.length=xs.length→(∀ (j:Nat) x z',xs[j]?=some x→zs[j]?=some z'→yu f w A x z')→∀ y∈zs,0≤y:=by
   intro xs zs hl hh y hy
   obtain ⟨j,hj⟩:=kV hy
   have hjl:j<xs.length:=by
    by_cases hlt:j<zs.length
    ·omega
    ·rw [List.getElem?_eq_none (by omega)] at hj;cases hj
   exact (yu.bd f _ _ (hh j xs[j] y (List.getElem?_eq_getElem hjl) hj)).1
  rcases h with ⟨h,_⟩ |⟨sv,xs,zs,h1,h2,h0,h3,h4,h5,h6⟩ |⟨sv,xs,zs,h1,h2,h0,h3,h4,h5⟩ |⟨p,l,m,z',h1,h2,h3,h4,h5,h6,h7,h8⟩
  ·omega
  ·have:=Pro.ZU zs 0 (by omega) (by omega) (key xs zs h3 h4)
   omega
  ·have:=Pro.ZU zs 0 (by omega) (by omega) (key xs zs h3 h4)
   omega
  ·have:=yu.bd f p z' h2
   have:=Pro.wz this.1 h3 h7
   omega
def Sizes (f:Nat)(w:World)(A:Nat→Prop)(xs:List Value)(zs:List Int):Prop:=zs.length=xs.length∧∀ (j:Nat) x z',xs[j]?=some x→zs[j]?=some z'→yu f w A x z'
namespace Pro
section
variable (L:List (Int×Int)) (len:Int)
def ye (n:Nat):Out:=
 if zi L (n+1)=63 then
  (if zi L (n+2)=58 then good 0 (n+3)
   else if zi L (n+2)=61∨zi L (n+2)=33∨zi L (n+2)=60 then bad 6 (zC L len n) (n+2)
   else bad 3 (zC L len (n+2)) (n+2))
 else good 0 (n+1)
def asN (n:Nat):Nat:=if zi L n=94∨zi L n=36 then 1 else if zi L n=92∧(zi L (n+1)=98∨zi L (n+1)=66) then 2 else 0
def wC (c:Int):Bool:=(c == 42) ||(c == 43) ||(c == 63) ||(c == 123) ||(c == 125) ||(c == 93)
def one (o:Out):Out:=if o.k=0 then good 1 o.n else o
def zN (D:Nat→Out)(n:Nat):Out:=
 if wC (zi L n)=true then bad 3 (zC L len n) n
 else if zi L n=40 then D n
 else if zi L n=91 then one (qo L len n)
 else if zi L n=92 then one (escO L len n)
 else good 1 (n+1)
def kZ (alt:Nat→Out)(n:Nat):Out:=
 if (ye L len n).k≠0 then ye L len n
 else if (alt (ye L len n).n).k≠0 then alt (ye L len n).n
 else if zi L (alt (ye L len n).n).n=41 then good (alt (ye L len n).n).v ((alt (ye L len n).n).n+1)
 else bad 3 (zC L len (alt (ye L len n).n).n) (alt (ye L len n).n).n
def yH (D:Nat→Out)(n:Nat):Out:=
 if asN L n≠0 then good 1 (n+asN L n)
 else if (zN L len D n).k≠0 then zN L len D n
 else if (zz L len (zN L len D n).n).1=false then zN L len D n
 else if (zz L len (zN L len D n).n).2.1.k≠0 then (zz L len (zN L len D n).n).2.1
 else good (min (repS (zN L len D n).v (zz L len (zN L len D n).n).2.1.v (zz L len (zN L len D n).n).2.2) 301) (vI L (zz L len (zN L len D n).n).2.1.n)
def vx (n:Nat):Bool:=decide (L.length≤n) ||decide (zi L n=124) ||decide (zi L n=41)
def xC (D:Nat→Out):Nat→Int→Nat→Out
 |0,s,n=>good s n
 |f+1,s,n=>if vx L n=true then good s n
  else if (yH L len D n).k≠0 then yH L len D n
  else xC D f (min (s+(yH L len D n).v) 301) (yH L len D n).n
def zS (D:Nat→Out)(n:Nat):Out:=xC L len D (L.length+1-n) 0 n
def altO (D:Nat→Out):Nat→List Int→Nat→Out
 |0,_,n=>good 0 n
 |f+1,zs,n=>if (zS L len D n).k≠0 then zS L len D n
  else if zi L (zS L len D n).n=124 then altO D f (zs++[(zS L len D n).v]) ((zS L len D n).n+1)
  else good (min (sumS 0 (zs++[(zS L len D n).v])+((zs.length:Int)+1)-1) 301) (zS L len D n).n
def altP (D:Nat→Out)(n:Nat):Out:=altO L len D (L.length+1-n) [] n
def zD:Nat→Nat→Out
 |0,n=>bad 7 (zC L len n) n
 |r+1,n=>kZ L len (altP L len (zD r)) n
end
def DOK (L:List (Int×Int))(D:Nat→Out):Prop:=∀ n,n<L.length→n≤(D n).n∧(D n).n≤L.length∧((D n).k=0→n<(D n).n∧0≤(D n).v∧(D n).v≤301)
section
variable {L:List (Int×Int)} {len:Int} {D:Nat→Out}
theorem YM (n:Nat)(h:n<L.length):n<(ye L len n).n∧(ye L len n).n≤L.length:=by
 unfold ye
 split
 ·have h1:n+1<L.length:=zE (by omega)
  split
  ·have h2:n+2<L.length:=zE (by omega)
   simp only [good];omega
  ·split
   ·simp only [bad];omega
   ·simp only [bad];omega
 ·simp only [good];omega
theorem asN_in (n:Nat)(h:asN L n≠0):n<n+asN L n∧n+asN L n≤L.length:=by
 refine ⟨by omega,?_⟩
 unfold asN at h ⊢
 split
 ·have:=zE (L:=L) (n:=n) (by omega);omega
 ·split
  ·have:=zE (L:=L) (n:=n+1) (by omega);omega
  ·rename_i h1 h2;rw [if_neg h1,if_neg h2] at h;exact absurd rfl h
theorem Vv (o:Out):(one o).n=o.n:=by unfold one;split<;>rfl
theorem Vw (o:Out):(one o).k=o.k:=by unfold one;split<;>simp_all [good]
theorem one_v (o:Out)(h:o.k=0):(one o).v=1:=by unfold one;rw [if_pos h];rfl
theorem JU (n:Nat)(h:n<L.length):n<(qo L len n).n∧(qo L len n).n≤L.length:=by
 unfold qo
 split
 ·have:=zE (L:=L) (n:=n+1) (by omega)
  have:=XQ (L:=L) (len:=len) (L.length+1-n) (n+2) (by omega)
  omega
 ·have:=XQ (L:=L) (len:=len) (L.length+1-n) (n+1) (by omega)
  omega
theorem QE (hD:DOK L D)(n:Nat)(h:n<L.length):n≤(zN L len D n).n∧(zN L len D n).n≤L.length∧((zN L len D n).k=0→n<(zN L len D n).n∧0≤(zN L len D n).v∧(zN L len D n).v≤301):=by
 unfold zN
 split
 ·simp only [bad];omega
 split
 ·exact hD n h
 split
 ·have:=JU (L:=L) (len:=len) n h
  rw [Vv,Vw]
  exact ⟨by omega,by omega,fun hk=>by rw [one_v _ hk];omega⟩
 split
 ·have:=Vk (L:=L) (len:=len) n h
  rw [Vv,Vw]
  exact ⟨by omega,by omega,fun hk=>by rw [one_v _ hk];omega⟩
 ·simp only [good];omega
theorem lazyN_in (n:Nat)(h:n≤L.length):n≤vI L n∧vI L n≤L.length:=by
 unfold vI
 split
 ·have:=zE (L:=L) (n:=n) (by omega);omega
 ·omega
theorem JV (n:Nat)(h:n≤L.length):n≤(zz L len n).2.1.n∧(zz L len n).2.1.n≤L.length∧((zz L len n).1=false→(zz L len n).2.1.n=n):=by
 unfold zz
 split
 ·have:=zE (L:=L) (n:=n) (by omega);simp [good];omega
 split
 ·have:=zE (L:=L) (n:=n) (by omega);simp [good];omega
 split
 ·have:=zE (L:=L) (n:=n) (by omega);simp [good];omega
 split
 ·have h1:=zE (L:=L) (n:=n) (by omega)
  have:=JE (len:=len) n h1
  simp;omega
 ·simp [good];omega
theorem zca (n:Nat)(h:n<L.length)(hk:(zW L len n).1.k=0):0≤(zW L len n).1.v∧(zW L len n).1.v≤100∧-1≤(zW L len n).2∧(zW L len n).2≤100∧((zW L len n).2 = -1∨(zW L len n).1.v≤(zW L len n).2):=by
 have ha:=jJ (L:=L) (len:=len) (n+1) (by omega)
 unfold zW at hk ⊢
 simp only [] at hk ⊢
 split
 ·rename_i h1;rw [if_pos h1] at hk;exact absurd hk h1
 rename_i h1
 rw [if_neg h1] at hk
 split
 ·simp [good];omega
 rename_i h2
 rw [if_neg h2] at hk
 split
 ·rename_i h3;rw [if_pos h3] at hk;cases hk
 rename_i h3
 rw [if_neg h3] at hk
 have hl:=zE (L:=L) (n:=(zq L len (n+1)).n) (by omega)
 split
 ·simp [good];omega
 rename_i h4
 rw [if_neg h4] at hk
 have hm:=jJ (L:=L) (len:=len) ((zq L len (n+1)).n+1) (by omega)
 split
 ·rename_i h5;rw [if_pos h5] at hk;exact absurd hk h5
 rename_i h5
 rw [if_neg h5] at hk
 split
 ·rename_i h6;rw [if_pos h6] at hk;cases hk
 rename_i h6
 rw [if_neg h6] at hk
 split
 ·rename_i h7;rw [if_pos h7] at hk;cases hk
 ·simp [good];omega
theorem QF (n:Nat)(hq:(zz L len n).1=true)(hk:(zz L len n).2.1.k=0):0≤(zz L len n).2.1.v∧(zz L len n).2.1.v≤100∧-1≤(zz L len n).2.2∧(zz L len n).2.2≤100∧((zz L len n).2.2 = -1∨(zz L len n).2.1.v≤(zz L len n).2.2):=by
 unfold zz at hq hk ⊢
 split
 ·simp [good]
 rename_i h1
 rw [if_neg h1] at hq hk
 split
 ·simp [good]
 rename_i h2
 rw [if_neg h2] at hq hk
 split
 ·simp [good]
 rename_i h3
 rw [if_neg h3] at hq hk
 split
 ·rename_i h4
  rw [if_pos h4] at hk
  exact zca n (zE (by omega)) hk
 ·rename_i h4;rw [if_neg h4] at hq;cases hq
theorem QG (hD:DOK L D)(n:Nat)(h:n<L.length):n≤(yH L len D n).n∧(yH L len D n).n≤L.length∧((yH L len D n).k=0→n<(yH L len D n).n∧0≤(yH L len D n).v∧(yH L len D n).v≤301):=by
 have ha:=QE (len:=len) hD n h
 have hq:=JV (L:=L) (len:=len) (zN L len D n).n ha.2.1
 unfold yH
 split
 ·rename_i h1
  have:=asN_in (L:=L) n h1
  simp only [good];omega
 split
 ·rename_i h1 h2
  exact ⟨ha.1,ha.2.1,fun hk=>absurd hk h2⟩
 rename_i h1 h2
 have h2':(zN L len D n).k=0:=by omega
 split
 ·exact ha
 rename_i h3
 split
 ·rename_i h4
  exact ⟨by omega,by omega,fun hk=>absurd hk h4⟩
 ·rename_i h4
  have h4':(zz L len (zN L len D n).n).2.1.k=0:=by omega
  have hl:=lazyN_in (L:=L) (zz L len (zN L len D n).n).2.1.n hq.2.1
  have hv:=QF (L:=L) (len:=len) (zN L len D n).n (by simpa using h3) h4'
  have hr:=wz (z:=(zN L len D n).v) (ha.2.2 h2').2.1 hv.1 hv.2.2.2.2
  have:=(ha.2.2 h2').1
  simp only [good]
  omega
theorem JW (hD:DOK L D):∀ (f:Nat) (s:Int) (n:Nat),n≤L.length→0≤s→s≤301→n≤(xC L len D f s n).n∧(xC L len D f s n).n≤L.length∧((xC L len D f s n).k=0→0≤(xC L len D f s n).v∧(xC L len D f s n).v≤301)
 |0,s,n,h,h0,h1=>by simp only [xC,good];omega
 |f+1,s,n,h,h0,h1=>by
  simp only [xC]
  split
  ·simp only [good];omega
  ·rename_i hs
   have hlt:n<L.length:=by unfold vx at hs;simp at hs;omega
   have ht:=QG (len:=len) hD n hlt
   split
   ·rename_i hk;exact ⟨ht.1,ht.2.1,fun hk'=>absurd hk' hk⟩
   ·rename_i hk
    have hk':(yH L len D n).k=0:=by omega
    have hv:=ht.2.2 hk'
    have:=JW hD f (min (s+(yH L len D n).v) 301) (yH L len D n).n ht.2.1 (by omega) (by omega)
    omega
theorem ZV (hD:DOK L D)(n:Nat)(h:n≤L.length):n≤(zS L len D n).n∧(zS L len D n).n≤L.length∧((zS L len D n).k=0→0≤(zS L len D n).v∧(zS L len D n).v≤301):=JW hD _ 0 n h (by omega) (by omega)
theorem zbh (hD:DOK L D):∀ (f:Nat) (zs:List Int) (n:Nat),n≤L.length→(∀ z∈zs,0≤z)→n≤(altO L len D f zs n).n∧(altO L len D f zs n).n≤L.length∧((altO L len D f zs n).k=0→0≤(altO L len D f zs n).v∧(altO L len D f zs n).v≤301)
 |0,zs,n,h,hz=>by simp only [altO,good];omega
 |f+1,zs,n,h,hz=>by
  have ht:=ZV (len:=len) hD n h
  simp only [altO]
  split
  ·rename_i hk;exact ⟨ht.1,ht.2.1,fun hk'=>absurd hk' hk⟩
  rename_i hk
  have hk':(zS L len D n).k=0:=by omega
  have hz':∀ z∈zs++[(zS L len D n).v],0≤z:=by
   intro z hzm
   rcases List.mem_append.1 hzm with hm |hm
   ·exact hz z hm
   ·simp at hm;have:=(ht.2.2 hk').1;omega
  split
  ·have h1:=zE (L:=L) (n:=(zS L len D n).n) (by omega)
   have:=zbh hD f (zs++[(zS L len D n).v]) ((zS L len D n).n+1) (by omega) hz'
   omega
  ·have:=ZU (zs++[(zS L len D n).v]) 0 (by omega) (by omega) hz'
   simp only [good];omega
theorem wD (hD:DOK L D)(n:Nat)(h:n≤L.length):n≤(altP L len D n).n∧(altP L len D n).n≤L.length∧((altP L len D n).k=0→0≤(altP L len D n).v∧(altP L len D n).v≤301):=zbh hD _ [] n h (by simp)
theorem qx:∀ r,DOK L (zD L len r)
 |0=>fun n h=>by simp only [zD,bad];omega
 |r+1=>fun n h=>by
  have ho:=YM (L:=L) (len:=len) n h
  have ha:=wD (len:=len) (qx r) (ye L len n).n ho.2
  simp only [zD]
  unfold kZ
  split
  ·rename_i hk;exact ⟨by omega,by omega,fun hk'=>absurd hk' hk⟩
  split
  ·rename_i hk;exact ⟨by omega,by omega,fun hk'=>absurd hk' hk⟩
  rename_i hk1 hk2
  have hk2':(altP L len (zD L len r) (ye L len n).n).k=0:=by omega
  have hv:=ha.2.2 hk2'
  split
  ·have h1:=zE (L:=L) (n:=(altP L len (zD L len r) (ye L len n).n).n) (by omega)
   simp only [good];omega
  ·simp only [bad];omega
end
end Pro
set_option maxHeartbeats 2000000
theorem Pro.sumS_append:∀ (zs:List Int)(t z:Int),Pro.sumS t (zs++[z])=min (Pro.sumS t zs+z) 301
 | [],_t,_z=>rfl
 |y :: r,t,z=>Pro.sumS_append r (min (t+y) 301) z
def Opens (b:Nat)(L:List (Int×Int))(len dp:Int)(a:Nat→Addr)(w:World)(o:Pro.Out)(x:Ending)(w':World):Prop:=
 Trk w.heap.size w b L o.n len dp a w'∧((o.k=0∧x = .returned .nilIface∧True)∨(o.k≠0∧∃ v,x = .returned v∧zR w' w.heap.size v (zY a o.k) o.p))
theorem vy (b:Nat)(L:List (Int×Int))(n:Nat)(len dp:Int)(a:Nat→Addr)(w:World)(h:yd w b L n len dp)(hS:ym w a)(hb:10≤b)(hL:L.length≤400)(hn:n<L.length) :
  Calls Tryz.prog 242 #[.pointer (some ⟨b,0,none⟩)] w (Opens b L len dp a w (Pro.ye L len n)):=by
 have T:=ze (Trk.start h hS hb)
 have c1:=h.c1
 have f1:=h.f1
 have hs6:=hS.s6
 clear h hS
 by_cases h1:Pro.zi L (n+1)=63
 ·have m1:Pro.zA L (n+1) { data:=#[63] }=true:=by rw [Pro.zu L (n+1) 63 63 rfl];simp [h1]
  have hlt:=Pro.zE (L:=L) (n:=n+1) (by omega)
  by_cases h2:Pro.zi L (n+2)=58
  ·have m2:Pro.zA L (n+1+1) { data:=#[58] }=true:=by rw [Pro.zu L (n+1+1) 58 58 rfl];simp [h2]
   have HO:Hid (Pro.ye L len n=Pro.good 0 (n+3)):=by unfold Pro.ye;rw [if_pos h1,if_pos h2];rfl
   clear h1 h2
   go_enter Tryz.func242,Tryz.ntmps242
   go_wp2_with (first |(go_at_call 103;refine (yV (n:=n) (by exact zb T) hL (by omega)).mono ?_;rintro e wq ⟨rfl,qq,rfl⟩) |(go_at_call 102;refine (kH (n:=n+1) _ (by exact ((zb T).drewN _).setN _ _ (by omega)) hL (by omega) (by decide) (by assumption)).mono ?_;rintro e wq ⟨rfl,tq⟩;have tq:Trk _ _ b L ((n+1)+1) len dp a wq:=tq;have T:=ze tq;have c1:=tq.c1;have f1:=tq.f1) |(go_at_call 102;refine (kH (n:=n+1+1) _ (by exact zb T) hL (by omega) (by decide) (by assumption)).mono ?_;rintro e wq ⟨rfl,tq⟩;have tq:Trk _ _ b L ((n+1+1)+1) len dp a wq:=tq;have T:=ze tq;have c1:=tq.c1;have f1:=tq.f1))
   go_ret
   rw [zb HO]
   exact ⟨zb T,.inl ⟨rfl,rfl,trivial⟩⟩
  ·have m2:Pro.zA L (n+1+1) { data:=#[58] }=false:=by rw [Pro.zu L (n+1+1) 58 58 rfl];simp [h2]
   by_cases h3:Pro.zi L (n+2)=61∨Pro.zi L (n+2)=33∨Pro.zi L (n+2)=60
   ·have HO:Hid (Pro.ye L len n=Pro.bad 6 (Pro.zC L len n) (n+2)):=by unfold Pro.ye;rw [if_pos h1,if_neg h2,if_pos h3];rfl
    have h3':((Pro.zi L (n+2) == 61)=true)∨((Pro.zi L (n+2) == 61)=false∧(Pro.zi L (n+2) == 33)=true)∨((Pro.zi L (n+2) == 61)=false∧(Pro.zi L (n+2) == 33)=false∧(Pro.zi L (n+2) == 60)=true):=by
     by_cases q1:Pro.zi L (n+2)=61
     ·left;simp [q1]
     ·right
      by_cases q2:Pro.zi L (n+2)=33
      ·left;simp [q2]
      ·right;exact ⟨by simp [q1],by simp [q2],by simp;omega⟩
    clear h1 h2 h3
    rcases h3' with q1 |⟨q1,q2⟩ |⟨q1,q2,q3⟩
    all_goals
     go_enter Tryz.func242,Tryz.ntmps242
     go_wp2_with (first |(go_at_call 103;refine (yV (n:=n) (by exact zb T) hL (by omega)).mono ?_;rintro e wq ⟨rfl,qq,rfl⟩) |(go_at_call 102;refine (kH (n:=n+1) _ (by exact ((zb T).drewN _).setN _ _ (by omega)) hL (by omega) (by decide) (by assumption)).mono ?_;rintro e wq ⟨rfl,tq⟩;have tq:Trk _ _ b L ((n+1)+1) len dp a wq:=tq;have T:=ze tq;have c1:=tq.c1;have f1:=tq.f1);(have hs6:=(zb T).se.s6) |(go_at_call 102;refine (xF (n:=n+1+1) _ (by exact zb T) hL (by omega) (by decide) (by assumption)).mono ?_;rintro e wq ⟨rfl,qq,rfl⟩) |(go_at_call 147;refine (yX (n:=n+2) (by exact (zb T).drewN _) hL (by omega)).mono ?_;rintro e wq ⟨rfl,hwq⟩;obtain rfl:=hwq.symm;clear hwq) |(go_at_call 56;refine (Qh (n:=n+2) _ 6 _ _ rfl (by exact (zb T).drewN _)).mono ?_;rintro e wq ⟨v,rfl,hv,tq⟩;have T:=ze tq;have c1:=tq.c1;have f1:=tq.f1))
     go_ret
     rw [zb HO]
     exact ⟨zb T,.inr ⟨(show (6:Nat)≠0 by decide),v,rfl,hv⟩⟩
   ·have HO:Hid (Pro.ye L len n=Pro.bad 3 (Pro.zC L len (n+2)) (n+2)):=by unfold Pro.ye;rw [if_pos h1,if_neg h2,if_neg h3];rfl
    have q1:(Pro.zi L (n+2) == 61)=false:=by simp;omega
    have q2:(Pro.zi L (n+2) == 33)=false:=by simp;omega
    have q3:(Pro.zi L (n+2) == 60)=false:=by simp;omega
    clear h1 h2 h3
    go_enter Tryz.func242,Tryz.ntmps242
    go_wp2_with (first |(go_at_call 103;refine (yV (n:=n) (by exact zb T) hL (by omega)).mono ?_;rintro e wq ⟨rfl,qq,rfl⟩) |(go_at_call 102;refine (kH (n:=n+1) _ (by exact ((zb T).drewN _).setN _ _ (by omega)) hL (by omega) (by decide) (by assumption)).mono ?_;rintro e wq ⟨rfl,tq⟩;have tq:Trk _ _ b L ((n+1)+1) len dp a wq:=tq;have T:=ze tq;have c1:=tq.c1;have f1:=tq.f1) |(go_at_call 102;refine (xF (n:=n+1+1) _ (by exact zb T) hL (by omega) (by decide) (by assumption)).mono ?_;rintro e wq ⟨rfl,qq,rfl⟩) |(go_at_call 147;refine (yX (n:=n+2) (by exact (zb T).drewN _) hL (by omega)).mono ?_;rintro e wq ⟨rfl,hwq⟩;obtain rfl:=hwq.symm;clear hwq) |(go_at_call 55;refine (Xq (n:=n+2) (by exact (zb T).drewN _) hL (by omega)).mono ?_;rintro e wq ⟨v,rfl,hv,tq⟩;have T:=ze tq;have c1:=tq.c1;have f1:=tq.f1))
    go_ret
    rw [zb HO]
    exact ⟨zb T,.inr ⟨(show (3:Nat)≠0 by decide),v,rfl,hv⟩⟩
 ·have m1:Pro.zA L (n+1) { data:=#[63] }=false:=by rw [Pro.zu L (n+1) 63 63 rfl];simp [h1]
  have HO:Hid (Pro.ye L len n=Pro.good 0 (n+1)):=by unfold Pro.ye;rw [if_neg h1];rfl
  clear h1
  go_enter Tryz.func242,Tryz.ntmps242
  go_wp2_with (first |(go_at_call 103;refine (yV (n:=n) (by exact zb T) hL (by omega)).mono ?_;rintro e wq ⟨rfl,qq,rfl⟩) |(go_at_call 102;refine (xF (n:=n+1) _ (by exact ((zb T).drewN _).setN _ _ (by omega)) hL (by omega) (by decide) (by assumption)).mono ?_;rintro e wq ⟨rfl,qq,rfl⟩))
  go_ret
  rw [zb HO]
  exact ⟨Trk.drewN (Trk.setN (by first |exact (zb T).drewN _ |exact zb T) (n+1) _ (by omega)) _,.inl ⟨rfl,rfl,trivial⟩⟩
end
end Go.Proofs.YtnagphodmfejiaaGreatDoor
