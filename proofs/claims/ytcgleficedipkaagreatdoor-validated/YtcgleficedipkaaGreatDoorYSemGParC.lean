/- A search that begins anew ahead of every character, by places of the program: plain. -/
import Derived.Test.YtcgleficedipkaaGreatDoorYProMProR
import Derived.ArgAppend
import Derived.OwnWalk
namespace Go.Proofs.YtcgleficedipkaaGreatDoor
open Option renaming none->U,some->I
open Value renaming int->M,slice->K,pointer->Ua,iface->Ud,agg->Uf,nilIface->Ui
open IntKind renaming i64->J
open Bool renaming false->Z,true->G
open Go renaming World->E,Value->Y,Calls->Uh
open Go.RowKit renaming Hid->H
open Or renaming inr->O,inl->Q
open Ending renaming returned->R
open Pro
section
namespace Sm
variable {lf:Tree->Nat->Prop} {ah:Int->Nat->Prop}
def Come (lf:Tree->Nat->Prop)(ah:Int->Nat->Prop)(N:List Stp)(s i q:Nat):Prop:=∃a,a<=i/\Goes lf ah N s a q i
def Stands (lf:Tree->Nat->Prop)(ah:Int->Nat->Prop)(N:List Stp)(s i:Nat)(ps:List Nat):Prop:=∀q,(∃p∈ps,Goes lf ah N p i q i)↔Come lf ah N s i q
theorem zat (N:List Stp)(s:Nat):Stands lf ah N s 0 [s]:=by
 intro q;constructor;rintro⟨p,a,g⟩;obtain rfl:=zgT.1 a;exact⟨0,zgH _,g⟩;rintro⟨b,h,g⟩;obtain rfl:b=0:=by omega
 exact⟨s,zgT.2 rfl,g⟩
def zca (lf:Tree->Nat->Prop)(ah:Int->Nat->Prop)(N:List Stp)(s n:Nat):Prop:=∃i,i<n/\Come lf ah N s i 0
theorem wE {N:List Stp}{s i:Nat}:zca lf ah N s (i+1)↔zca lf ah N s i\/Come lf ah N s i 0:=by constructor;rintro⟨j,a,h⟩;by_cases e:j=i;subst e;exact O h;exact Q ⟨j,oa,h⟩;rintro(⟨j,a,h⟩|h);exact⟨j,oa,h⟩;exact⟨i,oa,h⟩
theorem zf2 {N:List Stp}{s n:Nat}:zca lf ah N s (n+1)↔∃i j,i<=n/\j<=n/\Goes lf ah N s i 0 j:=by constructor;rintro⟨j,a,i,b,g⟩;exact⟨i,j,oa,oa,g⟩;rintro⟨i,j,_,a,g⟩;exact⟨j,oa,i,g.le,g⟩
end Sm
end
section
open Go.RowKit
theorem yq {P:Program}(w:World){ops:Array Oper}{rest:List Oper}{o:Oper}{a:Act}{Q:Exit->Act->World->Prop}(hgd:o.guard=none)(s x:Operand)(t:TypeId)(ho:o.op=.call { callee:=.builtin .append,args:=#[s,x],argTypes:=#[t,t] })(base:Nat) (e:TypeId) (i:TypeInfo) (z:Value) (size bytes:Nat) (ht:P.underlying t=some (.slice e)) (hi:P.info? e=some i) (hz:i.zero=some z)(hsize:i.size=size) (hby:i.bytes=bytes) (hzs:z.cells.size=size) (hsz:0<size)(v:Value) (n:Nat) (xs:List Value) (hs:a.eval s=v) (hown:w.ownsRow base e size v n xs)(ad:Addr) (m c:Nat) (news:List Value) (hx:a.eval x=.slice (some ad) m c) (hl:news.length=m*size) (hnews:∀j u,news[j]?=some u->w.cell? (ad.add j)=some u) (h1:∀u∈news,u.oneCell'=true)(h63:n+m<=maxLen) (hbytes:(n+m)*bytes<=140737488355328) (hbase:base<=w.heap.size)(h:∀v' w',w'.ownsRow base e size v' (n+m) (xs++news)->w.grownBy w' v.ownBlock->(∀k,v'.ownBlock=some k->v.ownBlock=some k\/w.heap.size<=k)->wpList P ops Q rest (a.put o.dst v') w'):wpList P ops Q (o :: rest) a w:=by
 have hgr:∀w' row,w.grownBy w' none->w.grownBy w' row:=fun w' row g=>⟨g.os,g.tape,g.output,g.size,fun k hk _=>g.block k hk ov⟩
 rcases hown.2 with⟨rfl,rfl⟩ |⟨g,cap,cur,rfl,hbg,hg,hnc,hcm,hcs,htake⟩
 ·have hxs:xs=[]:=zgY (by simpa using hown.1);subst hxs;by_cases hm:m=0
  ·subst hm;exact wpList_append_own w hgd s x t ho base e i z size bytes ht hi hz hsize hby hzs hsz _ 0 [] hs hown ad 0 c news hx hl hnews h1 h63 hbytes hbase (fun v' w' h2 h3 h4=>h v' w' h2 h3 (fun k hk=>by
    have:v'=.slice none 0 0:=h4.2 ⟨rfl,rfl⟩;subst this;simp[Value.ownBlock] at hk))
  ·exact wpList_append_grows w hgd s x t ho e i z size bytes ht hi hz hsize hby hzs hsz none 0 0 [] hs (fun _=>⟨rfl,rfl⟩) ov (fun b hb=>by cases hb) ad m c news hx hl hnews h1 oa h63 hbytes (fun v' w' h2 h3=>h v' w' (zZ h2 hbase) (hgr _ _ h3) (fun k hk=>.inr (h2.lt k hk).1))
 ·by_cases hroom:n+m<=cap
  ·exact wpList_append_fits w hgd s x t ho base e i size ht hi hsize g n cap xs hs hown ad m c news hx hl hnews h1 hroom (fun w' h2 h3=>h _ w' h2 h3 (fun k hk=>.inl hk))
  ·exact wpList_append_grows w hgd s x t ho e i z size bytes ht hi hz hsize hby hzs hsz (some ⟨g,0,none⟩) n cap xs hs (fun hh=>by cases hh) hown.1 (fun b hb=>by cases hb;exact hown.cells (g:=g) rfl) ad m c news hx hl hnews h1 oa h63 hbytes (fun v' w' h2 h3=>h v' w' (zZ h2 hbase) (hgr _ _ h3) (fun k hk=>.inr (h2.lt k hk).1))
namespace Pro
def xr:Int->List Int->Int
 |t,[]=>t
 |t,z :: r=>xr (min (t+z) 301) r
def j7 (z l m:Int):Int:=if m = -1 then max l 1*z+1 else l*z+(m-l)*(z+1)
end Pro
def Zb (w:E)(A:Nat->Prop)(b:Y)(xs:List Y):Prop:=
 (b=K U 0 0/\xs=[])\/∃g a,b=K (I ⟨g,0,U⟩) xs.length a/\A g/\xs.length<=a/\g<w.heap.size/\∀j x,xs[j]?=I x->w.cell? ⟨g,j,U⟩=I x
def leafT (T:TypeId):Prop:=T=162\/T=246\/T=247\/T=248\/T=252
def yu:Nat->E->(Nat->Prop)->Y->Int->Prop
 |0,_,_,_,_=>False
 |f+1,w,A,v,z=>
  (z=1/\∃T x,leafT T/\v=Ud T x)\/
  (∃b xs zs,v=Ud 243 b/\Zb w A b xs/\xs.length<=1000/\zs.length=xs.length/\(∀(j:Nat) x a,xs[j]?=I x->zs[j]?=I a->yu f w A x a)/\0<xs.length/\z=min (xr 0 zs+xs.length-1) 301)\/
  (∃b xs zs,v=Ud 254 b/\Zb w A b xs/\xs.length<=1000/\zs.length=xs.length/\(∀(j:Nat) x a,xs[j]?=I x->zs[j]?=I a->yu f w A x a)/\z=xr 0 zs)\/
  (∃p l m a,v=Ud 256 (Uf #[p,M J l,M J m])/\yu f w A p a/\0<=l/\l<=100/\-1<=m/\m<=100/\(m = -1\/l<=m)/\z=min (j7 a l m) 301)
theorem Zb.keep {P A:Nat->Prop}{w e:E}{d:Y}{xs:List Y}(h:Zb w A d xs)(k:zf P w e)(n:∀g,A g->¬P g):Zb e A d xs:=by rcases h with h|⟨g,f,i,a,l,m,b⟩;exact Q h;exact O ⟨g,f,i,a,l,zgJ m k.size,λj x c=>(k.cell (zgF w _ (b j x c)) (n g a)).trans (b j x c)⟩
theorem Zb.mono {A B:Nat->Prop}{w:E}{b:Y}{xs:List Y}(h:Zb w A b xs)(j:∀g,g<w.heap.size->A g->B g):Zb w B b xs:=by rcases h with h|⟨g,c,d,e,f,a,i⟩;exact Q h;exact O ⟨g,c,d,j g a e,f,a,i⟩
theorem yu.keep {P A:Nat->Prop}{w t:E}(k:zf P w t)(e:∀g,A g->¬P g):∀(f:Nat) (v:Y) (z:Int),yu f w A v z->yu f t A v z
 |0,_,_,h=>h
 |f+1,v,z,h=>by
  rcases h with h|⟨s,xs,zs,b,c,i,d,n,o,u⟩|⟨s,xs,zs,b,c,i,d,n,o⟩|⟨p,l,m,a,b,c,d⟩;exact Q h;exact O (Q ⟨s,xs,zs,b,c.keep k e,i,d,λj x a q r=>yu.keep k e f x a (n j x a q r),o,u⟩);exact O (O (Q ⟨s,xs,zs,b,c.keep k e,i,d,λj x a q r=>yu.keep k e f x a (n j x a q r),o⟩));exact O (O (O ⟨p,l,m,a,b,yu.keep k e f p a c,d⟩))
namespace Pro
theorem Xq:∀(zs:List Int) (t:Int),0<=t->t<=301->(∀z∈zs,0<=z)->0<=xr t zs/\xr t zs<=301
 | [],t,a,b,_=>⟨a,b⟩
 |z :: r,t,a,b,h=>by
  have d:=h z (zgQ ..);exact Xq r (min (t+z) 301) oa oa (λy c=>h y (zgR _ c))
theorem Yd {z l m:Int}(a:0<=z)(b:0<=l)(e:m = -1\/l<=m):0<=j7 z l m:=by unfold j7;split;have:0<=max l 1*z:=zhu oa a;omega;have c:0<=l*z:=zhu b a;have d:0<=(m-l)*(z+1):=zhu oa oa;omega
end Pro
theorem vZ {α:Type}{l:List α}{x:α}(h:x∈l):∃j:Nat,l[j]?=I x:=by obtain⟨j,a,e⟩:=zik h;exact⟨j,by rw[zgE a,e]⟩
theorem yu.bd {A:Nat->Prop}{w:E}:∀(f:Nat) (v:Y) (z:Int),yu f w A v z->0<=z/\z<=301
 |0,_,_,h=>h.elim
 |f+1,v,z,h=>by
  have key:∀(xs:List Y) (zs:List Int),zs.length=xs.length->(∀(j:Nat) x c,xs[j]?=I x->zs[j]?=I c->yu f w A x c)->∀y∈zs,0<=y:=by intro xs zs B o y s;obtain⟨j,q⟩:=vZ s;have r:j<xs.length:=(by grind);exact(yu.bd f _ _ (o j xs[j] y (zgE r) q)).1
  rcases h with⟨h,_⟩|⟨t,xs,zs,e,d,i,a,b,g,k⟩|⟨t,xs,zs,e,d,i,a,b,g⟩|⟨p,l,m,c,e,d,a,b,g,k,n,u⟩;omega;have:=Xq zs 0 oa oa (key xs zs a b);omega;have:=Xq zs 0 oa oa (key xs zs a b);omega;have:=yu.bd f p c d;have:=Yd this.1 a n;omega
def Sizes (f:Nat)(w:E)(A:Nat->Prop)(xs:List Y)(zs:List Int):Prop:=zs.length=xs.length/\∀(j:Nat) x a,xs[j]?=I x->zs[j]?=I a->yu f w A x a
namespace Pro
section
variable (L:List (Int×Int)) (T:Int)
def z8 (n:Nat):Out:=
 if zj L (n+1)=63 then
  (if zj L (n+2)=58 then good 0 (n+3)
   else if zj L (n+2)=61\/zj L (n+2)=33\/zj L (n+2)=60 then bad 6 (zC L T n) (n+2)
   else bad 3 (zC L T (n+2)) (n+2))
 else good 0 (n+1)
def asN (n:Nat):Nat:=if zj L n=94\/zj L n=36 then 1 else if zj L n=92/\(zj L (n+1)=98\/zj L (n+1)=66) then 2 else 0
def Ye (c:Int):Bool:=(c == 42) ||(c == 43) ||(c == 63) ||(c == 123) ||(c == 125) ||(c == 93)
def one (o:Out):Out:=if o.k=0 then good 1 o.n else o
def zM (D:Nat->Out)(n:Nat):Out:=
 if Ye (zj L n)=G then bad 3 (zC L T n) n
 else if zj L n=40 then D n
 else if zj L n=91 then one (qy L T n)
 else if zj L n=92 then one (xO L T n)
 else good 1 (n+1)
def wF (a:Nat->Out)(n:Nat):Out:=
 if(z8 L T n).k≠0 then z8 L T n
 else if(a (z8 L T n).n).k≠0 then a (z8 L T n).n
 else if zj L (a (z8 L T n).n).n=41 then good (a (z8 L T n).n).v ((a (z8 L T n).n).n+1)
 else bad 3 (zC L T (a (z8 L T n).n).n) (a (z8 L T n).n).n
def yL (D:Nat->Out)(n:Nat):Out:=
 if asN L n≠0 then good 1 (n+asN L n)
 else if(zM L T D n).k≠0 then zM L T D n
 else if(zy L T (zM L T D n).n).1=Z then zM L T D n
 else if(zy L T (zM L T D n).n).2.1.k≠0 then(zy L T (zM L T D n).n).2.1
 else good (min (j7 (zM L T D n).v (zy L T (zM L T D n).n).2.1.v (zy L T (zM L T D n).n).2.2) 301) (wX L (zy L T (zM L T D n).n).2.1.n)
def Zc (n:Nat):Bool:=decide (L.length<=n) ||decide (zj L n=124) ||decide (zj L n=41)
def xD (D:Nat->Out):Nat->Int->Nat->Out
 |0,s,n=>good s n
 |f+1,s,n=>if Zc L n=G then good s n
  else if(yL L T D n).k≠0 then yL L T D n
  else xD D f (min (s+(yL L T D n).v) 301) (yL L T D n).n
def zS (D:Nat->Out)(n:Nat):Out:=xD L T D (L.length+1-n) 0 n
def vk (D:Nat->Out):Nat->List Int->Nat->Out
 |0,_,n=>good 0 n
 |f+1,zs,n=>if(zS L T D n).k≠0 then zS L T D n
  else if zj L (zS L T D n).n=124 then vk D f (zs++[(zS L T D n).v]) ((zS L T D n).n+1)
  else good (min (xr 0 (zs++[(zS L T D n).v])+((zs.length:Int)+1)-1) 301) (zS L T D n).n
def yR (D:Nat->Out)(n:Nat):Out:=vk L T D (L.length+1-n) [] n
def zD:Nat->Nat->Out
 |0,n=>bad 7 (zC L T n) n
 |r+1,n=>wF L T (yR L T (zD r)) n
end
def DOK (L:List (Int×Int))(D:Nat->Out):Prop:=∀n,n<L.length->n<=(D n).n/\(D n).n<=L.length/\((D n).k=0->n<(D n).n/\0<=(D n).v/\(D n).v<=301)
section
variable {L:List (Int×Int)} {T:Int} {D:Nat->Out}
theorem QQ (n:Nat)(h:n<L.length):n<(z8 L T n).n/\(z8 L T n).n<=L.length:=by unfold z8;split;have a:n+1<L.length:=zJ oa;split;have b:n+2<L.length:=zJ oa;simp only[good];omega;split;simp only[bad];omega;simp only[bad];omega;simp only[good];omega
theorem asN_in (n:Nat)(h:asN L n≠0):n<n+asN L n/\n+asN L n<=L.length:=by
 refine⟨oa,?_⟩;unfold asN at h ⊢;split;have:=zJ (L:=L) (n:=n) oa;omega;split;have:=zJ (L:=L) (n:=n+1) oa;omega
 grind
theorem zcb (o:Out):(one o).n=o.n:=by unfold one;split<;>rfl
theorem zcc (o:Out):(one o).k=o.k:=by unfold one;split<;>simp_all [good]
theorem one_v (o:Out)(h:o.k=0):(one o).v=1:=by unfold one;rw[IN h];rfl
theorem Wo (n:Nat)(h:n<L.length):n<(qy L T n).n/\(qy L T n).n<=L.length:=by unfold qy;split;have:=zJ (L:=L) (n:=n+1) oa;have:=Jc (L:=L) (T:=T) (L.length+1-n) (n+2) oa;omega;have:=Jc (L:=L) (T:=T) (L.length+1-n) (n+1) oa;omega
theorem Ve (b:DOK L D)(n:Nat)(h:n<L.length):n<=(zM L T D n).n/\(zM L T D n).n<=L.length/\((zM L T D n).k=0->n<(zM L T D n).n/\0<=(zM L T D n).v/\(zM L T D n).v<=301):=by unfold zM;split;simp only[bad];omega;split;exact b n h;split;have:=Wo (L:=L) (T:=T) n h;rw[zcb,zcc];exact⟨oa,oa,λa=>by rw[one_v _ a];omega⟩;split;have:=zah (L:=L) (T:=T) n h;rw[zcb,zcc];exact⟨oa,oa,λa=>by rw[one_v _ a];omega⟩;simp only[good];omega
theorem lazyN_in (n:Nat)(h:n<=L.length):n<=wX L n/\wX L n<=L.length:=by unfold wX;split;have:=zJ (L:=L) (n:=n) oa;omega;omega
theorem Wp (n:Nat)(h:n<=L.length):n<=(zy L T n).2.1.n/\(zy L T n).2.1.n<=L.length/\((zy L T n).1=Z->(zy L T n).2.1.n=n):=by unfold zy;split;have:=zJ (L:=L) (n:=n) oa;simp[good];omega;split;have:=zJ (L:=L) (n:=n) oa;simp[good];omega;split;have:=zJ (L:=L) (n:=n) oa;simp[good];omega;split;have a:=zJ (L:=L) (n:=n) oa;have:=KU (T:=T) n a;simp;omega;simp[good];omega
theorem zf3 (n:Nat)(h:n<L.length)(a:(yi L T n).1.k=0):0<=(yi L T n).1.v/\(yi L T n).1.v<=100/\-1<=(yi L T n).2/\(yi L T n).2<=100/\((yi L T n).2 = -1\/(yi L T n).1.v<=(yi L T n).2):=by
 have j:=jV (L:=L) (T:=T) (n+1) oa;unfold yi at a ⊢;simp only[] at a ⊢;split
 grind
 rename_i d;rw[iN d] at a;split;simp[good];omega;rename_i e;rw[iN e] at a;split;rename_i b;rw[IN b] at a;cases a;rename_i b;rw[iN b] at a;have l:=zJ (L:=L) (n:=(yx L T (n+1)).n) oa;split;simp[good];omega;rename_i f;rw[iN f] at a;have m:=jV (L:=L) (T:=T) ((yx L T (n+1)).n+1) oa;split
 grind
 rename_i g;rw[iN g] at a;split;rename_i c;rw[IN c] at a;cases a;rename_i c;rw[iN c] at a;split;rename_i i;rw[IN i] at a;cases a;simp[good];omega
theorem Vf (n:Nat)(b:(zy L T n).1=G)(a:(zy L T n).2.1.k=0):0<=(zy L T n).2.1.v/\(zy L T n).2.1.v<=100/\-1<=(zy L T n).2.2/\(zy L T n).2.2<=100/\((zy L T n).2.2 = -1\/(zy L T n).2.1.v<=(zy L T n).2.2):=by unfold zy at b a ⊢;split;simp[good];rename_i d;rw[iN d] at b a;split;simp[good];rename_i e;rw[iN e] at b a;split;simp[good];rename_i f;rw[iN f] at b a;split;rename_i c;rw[IN c] at a;exact zf3 n (zJ oa) a;rename_i c;rw[iN c] at b;cases b
theorem Vg (g:DOK L D)(n:Nat)(h:n<L.length):n<=(yL L T D n).n/\(yL L T D n).n<=L.length/\((yL L T D n).k=0->n<(yL L T D n).n/\0<=(yL L T D n).v/\(yL L T D n).v<=301):=by
 have a:=Ve (T:=T) g n h;have i:=Wp (L:=L) (T:=T) (zM L T D n).n a.2.1;unfold yL;split;rename_i b;have:=asN_in (L:=L) n b;simp only[good];omega;split;omega;rename_i b j;have c:(zM L T D n).k=0:=oa;split;exact a;rename_i e;split;omega;rename_i l;have f:(zy L T (zM L T D n).n).2.1.k=0:=by omega
 have m:=lazyN_in (L:=L) (zy L T (zM L T D n).n).2.1.n i.2.1;have d:=Vf (L:=L) (T:=T) (zM L T D n).n (by simpa using e) f;have o:=Yd (z:=(zM L T D n).v) (a.2.2 c).2.1 d.1 d.2.2.2.2;have:=(a.2.2 c).1;simp only[good];omega
theorem Wq (a:DOK L D):∀(f:Nat) (s:Int) (n:Nat),n<=L.length->0<=s->s<=301->n<=(xD L T D f s n).n/\(xD L T D f s n).n<=L.length/\((xD L T D f s n).k=0->0<=(xD L T D f s n).v/\(xD L T D f s n).v<=301)
 |0,s,n,h,d,e=>by simp only[xD,good];omega
 |f+1,s,n,h,d,e=>by
  simp only[xD];split;simp only[good];omega;rename_i b;have i:n<L.length:=(by unfold Zc at b;simp at b;omega);have c:=Vg (T:=T) a n i;split;omega;rename_i j;have g:(yL L T D n).k=0:=oa;have l:=c.2.2 g;have:=Wq a f (min (s+(yL L T D n).v) 301) (yL L T D n).n c.2.1 oa oa;omega
theorem Xr (a:DOK L D)(n:Nat)(h:n<=L.length):n<=(zS L T D n).n/\(zS L T D n).n<=L.length/\((zS L T D n).k=0->0<=(zS L T D n).v/\(zS L T D n).v<=301):=Wq a _ 0 n h oa oa
theorem zez (a:DOK L D):∀(f:Nat) (zs:List Int) (n:Nat),n<=L.length->(∀z∈zs,0<=z)->n<=(vk L T D f zs n).n/\(vk L T D f zs n).n<=L.length/\((vk L T D f zs n).k=0->0<=(vk L T D f zs n).v/\(vk L T D f zs n).v<=301)
 |0,zs,n,h,c=>by simp only[vk,good];omega
 |f+1,zs,n,h,c=>by
  have i:=Xr (T:=T) a n h;simp only[vk];split;omega;rename_i e;have g:(zS L T D n).k=0:=oa;have b:∀z∈zs++[(zS L T D n).v],0<=z:=by grind
  split;have d:=zJ (L:=L) (n:=(zS L T D n).n) oa;have:=zez a f (zs++[(zS L T D n).v]) ((zS L T D n).n+1) oa b;omega;have:=Xq (zs++[(zS L T D n).v]) 0 oa oa b;simp only[good];omega
theorem Yf (a:DOK L D)(n:Nat)(h:n<=L.length):n<=(yR L T D n).n/\(yR L T D n).n<=L.length/\((yR L T D n).k=0->0<=(yR L T D n).v/\(yR L T D n).v<=301):=zez a _ [] n h ov
theorem qI:∀r,DOK L (zD L T r)
 |0=>λn h=>by simp only[zD,bad];omega
 |r+1=>λn h=>by
  have c:=QQ (L:=L) (T:=T) n h;have a:=Yf (T:=T) (qI r) (z8 L T n).n c.2;simp only[zD];unfold wF;split;omega;split;omega;rename_i e f;have b:(yR L T (zD L T r) (z8 L T n).n).k=0:=oa;have g:=a.2.2 b;split;have d:=zJ (L:=L) (n:=(yR L T (zD L T r) (z8 L T n).n).n) oa;simp only[good];omega;simp only[bad];omega
end
end Pro
set_option maxHeartbeats 2000000
theorem Pro.sumS_append:∀(zs:List Int) (t z:Int),xr t (zs++[z])=min (xr t zs+z) 301
 | [],_t,_z=>rfl
 |y :: r,t,z=>sumS_append r (min (t+y) 301) z
def Opens (b:Nat)(L:List (Int×Int))(T d:Int)(a:Nat->Addr)(w:E)(o:Pro.Out)(x:Ending)(c:E):Prop:=
 Trk w.heap.size w b L o.n T d a c/\((o.k=0/\x=R Ui/\True)\/(o.k≠0/\∃v,x=R v/\zN c w.heap.size v (yj a o.k) o.p))
theorem Zd (b:Nat)(L:List (Int×Int))(n:Nat)(T l:Int)(a:Nat->Addr)(w:E)(h:yh w b L n T l)(p:yt w a)(u:11<=b)(g:L.length<=400)(N:n<L.length):Uh Tryz.prog 251 #[Ua (I ⟨b,0,U⟩)] w (Opens b L T l a w (z8 L T n)):=by
 have c:=ze (Trk.start h p u);have c1:=h.c1;have f1:=h.f1;have x:=p.s6;clear h p;by_cases i:zj L (n+1)=63
 .have y:zE L (n+1) { data:=#[63] }=G:=by rw[zH L (n+1) 63 63 rfl];simp[i]
  have F:=zJ (L:=L) (n:=n+1) oa;by_cases j:zj L (n+2)=58
  .have z:zE L (n+1+1) { data:=#[58] }=G:=(by rw[zH L (n+1+1) 58 58 rfl];simp[j]);have k:H (z8 L T n=good 0 (n+3)):=(by unfold z8;rw[IN i,IN j];rfl);clear i j;go_enter Tryz.func251,Tryz.ntmps251;go_wp2_with(first|(go_at_call 114;refine(qj (n:=n) (by exact c) g oa).mono ?_;rintro e f ⟨rfl,m,rfl⟩)|(go_at_call 113;refine(vF (n:=n+1) _ (by exact(c.drewN _).setN _ _ oa) g oa od ox).mono ?_;rintro e f ⟨rfl,d⟩;have d:Trk _ _ b L ((n+1)+1) T l a f:=d;have c:=ze d;have c1:=d.c1;have f1:=d.f1)|(go_at_call 113;refine(vF (n:=n+1+1) _ (by exact c) g oa od ox).mono ?_;rintro e f ⟨rfl,d⟩;have d:Trk _ _ b L ((n+1+1)+1) T l a f:=d;have c:=ze d;have c1:=d.c1;have f1:=d.f1));go_ret;rw[zb k];exact⟨c,Q ⟨rfl,rfl,trivial⟩⟩
  have z:zE L (n+1+1) { data:=#[58] }=Z:=(by rw[zH L (n+1+1) 58 58 rfl];simp[j]);by_cases o:zj L (n+2)=61\/zj L (n+2)=33\/zj L (n+2)=60
  .have k:H (z8 L T n=Pro.bad 6 (zC L T n) (n+2)):=(by unfold z8;rw[IN i,iN j,IN o];rfl);have t:((zj L (n+2) == 61)=G)\/((zj L (n+2) == 61)=Z/\(zj L (n+2) == 33)=G)\/((zj L (n+2) == 61)=Z/\(zj L (n+2) == 33)=Z/\(zj L (n+2) == 60)=G):=(by grind);clear i j o;rcases t with r|⟨r,s⟩|⟨r,s,B⟩
   all_goals
    go_enter Tryz.func251,Tryz.ntmps251;go_wp2_with(first|(go_at_call 114;refine(qj (n:=n) (by exact c) g oa).mono ?_;rintro e f ⟨rfl,m,rfl⟩)|(go_at_call 113;refine(vF (n:=n+1) _ (by exact(c.drewN _).setN _ _ oa) g oa od ox).mono ?_;rintro e f ⟨rfl,d⟩;have d:Trk _ _ b L ((n+1)+1) T l a f:=d;have c:=ze d;have c1:=d.c1;have f1:=d.f1);(have x:=c.se.s6)|(go_at_call 113;refine(xF (n:=n+1+1) _ (by exact c) g oa od ox).mono ?_;rintro e f ⟨rfl,m,rfl⟩)|(go_at_call 157;refine ziD (y8 (n:=n+2) (by exact c.drewN _) g oa) ?_)|(go_at_call 45;refine(JB (n:=n+2) _ 6 _ _ rfl (by exact c.drewN _)).mono ?_;rintro e f ⟨v,rfl,q,d⟩;have c:=ze d;have c1:=d.c1;have f1:=d.f1));go_ret;rw[zb k];exact⟨c,O ⟨(show(6:Nat)≠0 by decide),v,rfl,q⟩⟩
  have k:H (z8 L T n=Pro.bad 3 (zC L T (n+2)) (n+2)):=(by unfold z8;rw[IN i,iN j,iN o];rfl);have r:(zj L (n+2) == 61)=Z:=ou;have s:(zj L (n+2) == 33)=Z:=ou;have B:(zj L (n+2) == 60)=Z:=ou;clear i j o;go_enter Tryz.func251,Tryz.ntmps251;go_wp2_with(first|(go_at_call 114;refine(qj (n:=n) (by exact c) g oa).mono ?_;rintro e f ⟨rfl,m,rfl⟩)|(go_at_call 113;refine(vF (n:=n+1) _ (by exact(c.drewN _).setN _ _ oa) g oa od ox).mono ?_;rintro e f ⟨rfl,d⟩;have d:Trk _ _ b L ((n+1)+1) T l a f:=d;have c:=ze d;have c1:=d.c1;have f1:=d.f1)|(go_at_call 113;refine(xF (n:=n+1+1) _ (by exact c) g oa od ox).mono ?_;rintro e f ⟨rfl,m,rfl⟩)|(go_at_call 157;refine ziD (y8 (n:=n+2) (by exact c.drewN _) g oa) ?_)|(go_at_call 64;refine(QB (n:=n+2) (by exact c.drewN _) g oa).mono ?_;rintro e f ⟨v,rfl,q,d⟩;have c:=ze d;have c1:=d.c1;have f1:=d.f1));go_ret;rw[zb k];exact⟨c,O ⟨(show(3:Nat)≠0 by decide),v,rfl,q⟩⟩
 have y:zE L (n+1) { data:=#[63] }=Z:=by rw[zH L (n+1) 63 63 rfl];simp[i]
 have k:H (z8 L T n=good 0 (n+1)):=by unfold z8;rw[iN i];rfl
 clear i;go_enter Tryz.func251,Tryz.ntmps251;go_wp2_with(first|(go_at_call 114;refine(qj (n:=n) (by exact c) g oa).mono ?_;rintro e f ⟨rfl,m,rfl⟩)|(go_at_call 113;refine(xF (n:=n+1) _ (by exact(c.drewN _).setN _ _ oa) g oa od ox).mono ?_;rintro e f ⟨rfl,m,rfl⟩));go_ret;rw[zb k];exact⟨Trk.drewN (Trk.setN (by first|exact c.drewN _|exact c) (n+1) _ oa) _,Q ⟨rfl,rfl,trivial⟩⟩
end
