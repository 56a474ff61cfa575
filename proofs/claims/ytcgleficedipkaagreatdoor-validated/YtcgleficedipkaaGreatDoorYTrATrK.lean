/- Parts in memory, as trees. -/
import Derived.Test.YtcgleficedipkaaGreatDoorYEqAEqI
namespace Go.Proofs.YtcgleficedipkaaGreatDoor
open Option renaming none->U,some->I
open Value renaming int->M,slice->K,bool->C,pointer->Ua,iface->Ud,tuple->Ue,agg->Uf,nilIface->Ui
open IntKind renaming i64->J,i32->Ug
open Bool renaming false->Z,true->G
open Go renaming World->E,Value->Y
open Or renaming inr->O,inl->Q
open Ending renaming returned->R
open Pro Ref
variable {b:Nat}{L:List (Int×Int)}{T e:Int}{a:Nat->Addr}{w c:World}
section
open Go.RowKit
open Sm (Tree)
namespace Pro
def wO (a:Int):Tree:=⟨0,a,0,Z,[],[],[]⟩
def wP:Tree:=⟨1,0,0,Z,[],[],[]⟩
def ji (c:Int):Tree:=⟨2,c,0,Z,[],[],[]⟩
def qJ (c:Int):Tree:=⟨3,c,0,Z,[],[],[]⟩
def vG (neg:Bool)(R:List (Int×Int))(S:List Int):Tree:=⟨4,0,0,neg,R,S,[]⟩
def tAlt (a:List Tree):Tree:=⟨5,0,0,Z,[],[],a⟩
def ZH (a:List Tree):Tree:=⟨6,0,0,Z,[],[],a⟩
def vH (t:Tree)(l m:Int):Tree:=⟨7,l,m,Z,[],[],[t]⟩
section
variable (L:List (Int×Int)) (T:Int)
def asV (n:Nat):Int:=if zj L n=94 then 0 else if zj L n=36 then 1 else if zj L (n+1)=98 then 2 else 3
def qK:Nat->Nat->List (Int×Int)->List Int->List (Int×Int)×List Int
 |0,_,W,S=>(W,S)
 |f+1,n,W,S=>if zj L n=93 then(W,S) else qK f (qD L T n).n (Zl L T n W) (Zm L T n S)
def xP (n:Nat):Tree:=vG (decide (zj L (n+1)=94)) (qK L T (L.length+1-n) (if zj L (n+1)=94 then n+2 else n+1) [] []).1 (qK L T (L.length+1-n) (if zj L (n+1)=94 then n+2 else n+1) [] []).2
def oneT (m:Bool)(c:Int):Tree:=match m with
 |true=>qJ c
 |false=>ji c
def xi (DT:Nat->Tree)(n:Nat):Tree:=
 if zj L n=40 then DT n
 else if zj L n=91 then xP L T n
 else if zj L n=92 then oneT (jj (zj L (n+1))) (xO L T n).v
 else if zj L n=46 then wP
 else ji (zj L n)
def ja (D:Nat->Out)(DT:Nat->Tree)(n:Nat):Tree:=
 if asN L n≠0 then wO (asV L n)
 else if(zy L T (zM L T D n).n).1=Z then xi L T DT n
 else vH (xi L T DT n) (zy L T (zM L T D n).n).2.1.v (zy L T (zM L T D n).n).2.2
def ju (D:Nat->Out)(DT:Nat->Tree):Nat->List Tree->Nat->List Tree
 |0,a,_=>a
 |f+1,a,n=>if Zc L n=G then a else ju D DT f (a++[ja L T D DT n]) (yL L T D n).n
def xX (D:Nat->Out)(DT:Nat->Tree)(n:Nat):Tree:=ZH (ju L T D DT (L.length+1-n) [] n)
def altT (D:Nat->Out)(DT:Nat->Tree):Nat->List Tree->Nat->List Tree
 |0,a,_=>a
 |f+1,a,n=>if zj L (zS L T D n).n=124 then altT D DT f (a++[xX L T D DT n]) ((zS L T D n).n+1) else a++[xX L T D DT n]
def wG (D:Nat->Out)(DT:Nat->Tree)(n:Nat):Tree:=tAlt (altT L T D DT (L.length+1-n) [] n)
def qC:Nat->Nat->Tree
 |0,_=>wP
 |r+1,n=>wG L T (zD L T r) (qC r) (z8 L T n).n
end
end Pro
def qt (w:E)(A:Nat->Prop)(b:Y)(n:Nat)(xs:List Y):Prop:=
 (b=K U 0 0/\n=0/\xs=[])\/∃g a,b=K (I ⟨g,0,U⟩) n a/\A g/\n<=a/\g<w.heap.size/\∀j x,xs[j]?=I x->w.cell? ⟨g,j,U⟩=I x
theorem qt.keep {P A:Nat->Prop}{w c:E}{e:Y}{n:Nat}{xs:List Y}(h:qt w A e n xs)(k:zf P w c)(o:∀g,A g->¬P g):qt c A e n xs:=by rcases h with h|⟨g,f,i,a,l,m,b⟩;exact Q h;exact O ⟨g,f,i,a,l,zgJ m k.size,λj x d=>(k.cell (zgF w _ (b j x d)) (o g a)).trans (b j x d)⟩
theorem qt.mono {A B:Nat->Prop}{w:E}{b:Y}{n:Nat}{xs:List Y}(h:qt w A b n xs)(j:∀g,g<w.heap.size->A g->B g):qt w B b n xs:=by rcases h with h|⟨g,c,d,e,f,a,i⟩;exact Q h;exact O ⟨g,c,d,j g a e,f,a,i⟩
theorem zck {base k n:Nat}{w:E}{T:TypeId}{a:Y}{xs:List Y}(h:w.ownsRow base T k a n xs)(o:n=0->xs=[]):qt w (λg=>base<=g) a n xs:=by
 have l:=zh h;have f:=@World.ownsRow.cells w base T k a n xs h;rcases h.2 with⟨rfl,b⟩|⟨g,c,p,rfl,d,q,m,_⟩;exact Q ⟨rfl,b,o b⟩;exact O ⟨g,c,rfl,d,m,(l g rfl).2,λj x i=>by
  have:=f (g:=g) rfl j x i;have e:(⟨g,0,U⟩:Addr).add j=⟨g,j,U⟩:=(by unfold Addr.add;split<;>simp_all);rw[e] at this;exact this⟩
def kF (w:E)(A:Nat->Prop)(v:Y)(t:Tree):Prop:=
 (∃c,t=wO c/\v=Ud 162 (M J c))\/
 (t=wP/\v=Ud 246 (Uf #[]))\/
 (∃c,t=ji c/\v=Ud 247 (M Ug c))\/
 (∃c,t=qJ c/\v=Ud 248 (M Ug c))\/
 (∃neg a S b d,t=vG neg a S/\v=Ud 252 (Uf #[C neg,b,d])/\qt w A b a.length (rangeCells a)/\qt w A d S.length (jE S))
def zG:Nat->E->(Nat->Prop)->Y->Tree->Prop
 |0,_,_,_,_=>False
 |f+1,w,A,v,t=>
  kF w A v t\/
  (∃c xs b,t=tAlt b/\v=Ud 243 c/\Zb w A c xs/\xs.length<=1000/\b.length=xs.length/\(∀(j:Nat) x a,xs[j]?=I x->b[j]?=I a->zG f w A x a)/\0<xs.length)\/
  (∃c xs b,t=ZH b/\v=Ud 254 c/\Zb w A c xs/\xs.length<=1000/\b.length=xs.length/\(∀(j:Nat) x a,xs[j]?=I x->b[j]?=I a->zG f w A x a))\/
  (∃p l m a,t=vH a l m/\v=Ud 256 (Uf #[p,M J l,M J m])/\zG f w A p a/\0<=l/\l<=100/\-1<=m/\m<=100/\(m = -1\/l<=m))
theorem kF.keep {P A:Nat->Prop}{w c:E}{v:Y}{t:Tree}(h:kF w A v t)(k:zf P w c)(a:∀g,A g->¬P g):kF c A v t:=by rcases h with h|h|h|h|⟨neg,b,S,j,l,d,e,f,i⟩;exact Q h;exact O (Q h);exact O (O (Q h));exact O (O (O (Q h)));exact O (O (O (O ⟨neg,b,S,j,l,d,e,f.keep k a,i.keep k a⟩)))
theorem kF.mono {A B:Nat->Prop}{w:E}{v:Y}{t:Tree}(h:kF w A v t)(a:∀g,g<w.heap.size->A g->B g):kF w B v t:=by rcases h with h|h|h|h|⟨neg,b,S,i,j,c,d,e,f⟩;exact Q h;exact O (Q h);exact O (O (Q h));exact O (O (O (Q h)));exact O (O (O (O ⟨neg,b,S,i,j,c,d,e.mono a,f.mono a⟩)))
theorem zG.keep {P A:Nat->Prop}{w c:E}(k:zf P w c)(b:∀g,A g->¬P g):∀(f:Nat) (v:Y) (t:Tree),zG f w A v t->zG f c A v t
 |0,_,_,h=>h
 |f+1,v,z,h=>by
  rcases h with h|⟨u,xs,zs,e,d,i,o,n,q,y⟩|⟨u,xs,zs,e,d,i,o,n,q⟩|⟨p,l,m,a,e,d,i,n⟩;exact Q (h.keep k b);exact O (Q ⟨u,xs,zs,e,d,i.keep k b,o,n,λj x a r s=>zG.keep k b f x a (q j x a r s),y⟩);exact O (O (Q ⟨u,xs,zs,e,d,i.keep k b,o,n,λj x a r s=>zG.keep k b f x a (q j x a r s)⟩));exact O (O (O ⟨p,l,m,a,e,d,zG.keep k b f p a i,n⟩))
theorem zG.mono {A B:Nat->Prop}{w:E}(b:∀g,g<w.heap.size->A g->B g):∀(f:Nat) (v:Y) (t:Tree),zG f w A v t->zG f w B v t
 |0,_,_,h=>h
 |f+1,v,z,h=>by
  rcases h with h|⟨r,xs,zs,e,c,d,k,i,n,s⟩|⟨r,xs,zs,e,c,d,k,i,n⟩|⟨p,l,m,a,e,c,d,i⟩;exact Q (h.mono b);exact O (Q ⟨r,xs,zs,e,c,d.mono b,k,i,λj x a o q=>zG.mono b f x a (n j x a o q),s⟩);exact O (O (Q ⟨r,xs,zs,e,c,d.mono b,k,i,λj x a o q=>zG.mono b f x a (n j x a o q)⟩));exact O (O (O ⟨p,l,m,a,e,c,zG.mono b f p a d,i⟩))
theorem zG.up {A:Nat->Prop}{w:E}:∀(f g:Nat) (v:Y) (t:Tree),f<=g->zG f w A v t->zG g w A v t
 |0,_,_,_,_,h=>h.elim
 |f+1,0,_,_,s,_=>oa
 |f+1,g+1,v,z,s,h=>by
  rcases h with h|⟨q,xs,zs,e,b,c,i,d,k,r⟩|⟨q,xs,zs,e,b,c,i,d,k⟩|⟨p,l,m,a,e,b,c,d⟩;exact Q h;exact O (Q ⟨q,xs,zs,e,b,c,i,d,λj x a n o=>zG.up f g x a oa (k j x a n o),r⟩);exact O (O (Q ⟨q,xs,zs,e,b,c,i,d,λj x a n o=>zG.up f g x a oa (k j x a n o)⟩));exact O (O (O ⟨p,l,m,a,e,b,zG.up f g p a oa c,d⟩))
theorem zG.leaf {A:Nat->Prop}{v:Y}{t:Tree}(h:kF w A v t):zG 1 w A v t:=Q h
def kW (f:Nat)(w:E)(A:Nat->Prop)(xs:List Y)(zs:List Tree):Prop:=zs.length=xs.length/\∀(j:Nat) x a,xs[j]?=I x->zs[j]?=I a->zG f w A x a
theorem kW.append {f g:Nat}{w:E}{A:Nat->Prop}{xs:List Y}{zs:List Tree}{x:Y}{z:Tree}(h:kW f w A xs zs)(e:zG g w A x z):kW (max f g) w A (xs++[x]) (zs++[z]):=by
 refine⟨by simp[h.1],?_⟩;intro j y i a b;by_cases c:j<xs.length;rw[zgW c] at a;rw[zgW (by rw[h.1];exact c)] at b;exact zG.up f _ _ _ oa (h.2 j y i a b);rw[zg2 oa] at a;rw[zg2 (by rw[h.1];omega),h.1] at b;by_cases d:j-xs.length=0;rw[d] at a b;simp at a b;subst a;subst b;exact zG.up g _ _ _ oa e
 grind
theorem kW.keep {P A:Nat->Prop}{f:Nat}{w c:E}{xs:List Y}{zs:List Tree}(h:kW f w A xs zs)(k:zf P w c)(a:∀g,A g->¬P g):kW f c A xs zs:=⟨h.1,λj x z b d=>zG.keep k a f x z (h.2 j x z b d)⟩
theorem kW.mono {A B:Nat->Prop}{f:Nat}{w:E}{xs:List Y}{zs:List Tree}(h:kW f w A xs zs)(a:∀g,g<w.heap.size->A g->B g):kW f w B xs zs:=⟨h.1,λj x z b c=>zG.mono a f x z (h.2 j x z b c)⟩
def xd (b:Nat)(L:List (Int×Int))(T e:Int)(a:Nat->Addr)(w:E)(o:Pro.Out)(t:Tree)(x:Ending)(c:E):Prop:=
 zf (zt b) w c/\yh c b L o.n T e/\((o.k=0/\∃d y F,x=R (Ue #[Ud d y,Ui])/\zG F c (λg=>w.heap.size<=g) (Ud d y) t)\/
  (o.k≠0/\∃v,x=R (Ue #[Ui,v])/\zN c w.heap.size v (yj a o.k) o.p))
theorem xd.good {o:Pro.Out}{v:Int}{n:Nat}{d:TypeId}{y:Y}{F:Nat}{t:Tree}(i:o=good v n)(f:zf (zt b) w c)(h:yh c b L n T e)(j:zG F c (λg=>w.heap.size<=g) (Ud d y) t):xd b L T e a w o t (R (Ue #[Ud d y,Ui])) c:=by subst i;exact⟨f,h,Q ⟨rfl,d,y,F,rfl,j⟩⟩
theorem xd.bad {o:Pro.Out}{k:Nat}{p:Int}{n:Nat}{v:Y}{t:Tree}(h:o=Pro.bad k p n)(g:k≠0)(d:zf (zt b) w c)(f:yh c b L n T e)(i:zN c w.heap.size v (yj a k) p):xd b L T e a w o t (R (Ue #[Ui,v])) c:=by subst h;exact⟨d,f,O ⟨g,v,rfl,i⟩⟩
theorem xE.givesT {o:Pro.Out}{d:TypeId}{y:Y}{x:Ending}{t:Tree}(h:xE b L T e a w o (Ud d y) Ui x c)(l:o.k=0->kF c (λg=>w.heap.size<=g) (Ud d y) t):xd b L T e a w (Pro.one o) t x c:=by
 obtain⟨j,k,h⟩:=h;refine⟨j,by rw[zcb];exact k,?_⟩;rcases h with⟨f,i⟩|⟨f,v,i,m⟩;exact Q ⟨by rw[zcc];exact f,d,y,1,i,zG.leaf (l f)⟩;have:Pro.one o=o:=by unfold Pro.one;rw[iN f]
 rw[this];exact O ⟨f,v,i,m⟩
theorem xd.pair {o:Pro.Out}{t:Tree}{x:Ending}(h:xd b L T e a w o t x c):∃p q,x=R (Ue #[p,q]):=by obtain⟨_,_,⟨_,d,y,F,f,_⟩|⟨_,v,f,_⟩⟩:=h;exact⟨_,_,f⟩;exact⟨_,_,f⟩
theorem xd.after {w1 c:E}{o:Pro.Out}{t:Tree}{x:Ending}(f:zf (zt b) w w1)(h:xd b L T e a w1 o t x c):xd b L T e a w o t x c:=by obtain⟨k,l,m⟩:=h;refine⟨f.trans k,l,?_⟩;rcases m with⟨i,d,y,F,j,p⟩|⟨i,v,j,q⟩;exact Q ⟨i,d,y,F,j,zG.mono (λg _ n=>zgN f.size n) F _ _ p⟩;exact O ⟨i,v,j,q.base f.size⟩
theorem jv {o:Pro.Out}{t:Tree}{x:Ending}(h:xd b L T e a w o t x c)(k:o.k=0):∃d y F,x=R (Ue #[Ud d y,Ui])/\zG F c (λg=>w.heap.size<=g) (Ud d y) t/\zf (zt b) w c/\yh c b L o.n T e:=by obtain⟨f,i,⟨_,d,y,F,m,l⟩|⟨j,_⟩⟩:=h;exact⟨d,y,F,m,l,f,i⟩;exact absurd k j
theorem Xu {o:Pro.Out}{t:Tree}{x:Ending}(h:xd b L T e a w o t x c)(k:o.k≠0):∃g,x=R (Ue #[Ui,Ud 122 (Ua (I ⟨g,0,U⟩))])/\zN c w.heap.size (Ud 122 (Ua (I ⟨g,0,U⟩))) (yj a o.k) o.p/\zf (zt b) w c/\yh c b L o.n T e:=by obtain⟨f,i,⟨j,_⟩|⟨_,v,l,d⟩⟩:=h;exact absurd j k;obtain⟨g,rfl⟩:=d.form;exact⟨g,l,d,f,i⟩
end
section
open Sm (Tree)
namespace Pro
def nOK (v:Int):Prop:=-1<=v/\v<=1114111
def kL:Nat->Tree->Prop
 |0,_=>True
 |f+1,T=>(T.kind=2->nOK T.a)/\(T.kind=3->jj T.a=G)/\(T.kind=4->(∀r∈T.rs,nOK r.1/\nOK r.2)/\∀s∈T.ss,jj s=G)/\∀t∈T.kids,kL f t
section
variable {L:List (Int×Int)} {T:Int}
theorem zcl (k:Nat)(p:Int)(n:Nat):nOK (bad k p n).v:=by unfold nOK bad;simp
theorem hex_v {f:Nat}(a:f<=4)(n:Nat):0<=(yF L T f 0 n).v/\(yF L T f 0 n).v<=65535:=
 zaf L T f 0 n oa (by have:(0:Int)<16 ^ (4-f):=Int.pow_pos oa;omega) a
theorem Wu:∀(f:Nat) (c:Int) (d n:Nat),0<=c->c<=1114111->nOK (xH L T f c d n).v
 |0,c,d,n,b,a=>⟨by show -1<=c;omega,a⟩
 |f+1,c,d,n,b,a=>by
  unfold xH;split;exact⟨by show -1<=c;omega,a⟩;split;exact zcl _ _ _;exact Wu f _ _ _ oa oa
theorem zdR (n:Nat):nOK (ym L T n).v:=by
 have a:=hex_v (L:=L) (T:=T) (f:=4) oa n;have e:nOK (yF L T 4 0 n).v:=⟨oa,oa⟩
 unfold ym;split;exact e;split
 (rename_i b c;have d:j6 L T (yF L T 4 0 n).n<=57343/\(0<=j6 L T (yF L T 4 0 n).n->56320<=j6 L T (yF L T 4 0 n).n):=by unfold j6;split;omega;exact⟨oa,λh=>oa⟩);unfold nOK good;simp only;omega;exact e
theorem numO_v (a:Fit L)(n:Nat):nOK (vE L T n).v:=by have b:=a n;unfold vE;split;unfold nOK good vD ctlV;simp only;split;omega;omega;split;unfold vJ;split;exact zcl _ _ _;unfold nOK good;simp;split;unfold xN;split;unfold nOK good;simp only;omega;exact zcl _ _ _;split;have:=hex_v (L:=L) (T:=T) (f:=2) oa (n+1);exact⟨oa,oa⟩;split;exact Wu _ _ _ _ oa oa;split;exact zdR _;exact zcl _ _ _
theorem escO_v (a:Fit L)(n:Nat):nOK (xO L T n).v:=by unfold xO;split;exact a (n+1);split;exact zcl _ _ _;exact numO_v a _
theorem zcm {n:Nat}(h:jj (zj L (n+1))=G):(xO L T n).v=zj L (n+1):=by unfold xO;rw[IN h];rfl
theorem Xv (a:Fit L)(n:Nat):nOK (zp L T n).v:=by unfold zp;split;unfold nOK good;simp;split;unfold nOK good;simp;split;exact escO_v a n;exact a n
theorem zcn {n:Nat}(h:many L n=G):jj (zp L T n).v=G:=by unfold many at h;rw[zhb,decide_eq_true_eq] at h;unfold zp;rw[iN (λe=>by rw[e.2] at h;exact absurd h.2 od),iN (λe=>by rw[e.2] at h;exact absurd h.2 od),IN h.1,zcm h.2];exact h.2
theorem Wv (e:Fit L):∀(f n:Nat) (W:List (Int×Int)) (S:List Int),(∀r∈W,nOK r.1/\nOK r.2)->(∀s∈S,jj s=G)->(∀r∈(qK L T f n W S).1,nOK r.1/\nOK r.2)/\∀s∈(qK L T f n W S).2,jj s=G
 |0,_,_,_,c,d=>⟨c,d⟩
 |f+1,n,W,S,c,d=>by
  unfold qK;split;exact⟨c,d⟩;refine Wv e f _ _ _ (λr a=>?_) (λs b=>?_);unfold Zl at a;split at a;rcases zgU.1 a with a|a;exact c r a;obtain rfl:=zgT.1 a;exact⟨Xv e _,Xv e _⟩;split at a;exact c r a;rcases zgU.1 a with a|a;exact c r a;obtain rfl:=zgT.1 a;exact⟨Xv e _,Xv e _⟩;unfold Zm at b;split at b;exact d s b;split at b;rename_i g;rcases zgU.1 b with b|b;exact d s b;obtain rfl:=zgT.1 b;exact zcn g;exact d s b
theorem zeN {c:Int}(h:nOK c):∀f,kL f (ji c)
 |0=>trivial
 |f+1=>⟨λ_=>h,λe=>by simp[ji] at e,λe=>by simp[ji] at e,λt a=>by simp[ji] at a⟩
theorem sh_short {c:Int}(h:jj c=G):∀f,kL f (qJ c)
 |0=>trivial
 |f+1=>⟨λe=>by simp[qJ] at e,λ_=>h,λe=>by simp[qJ] at e,λt a=>by simp[qJ] at a⟩
theorem sh_any:∀f,kL f wP
 |0=>trivial
 |f+1=>⟨λe=>by simp[wP] at e,λe=>by simp[wP] at e,λe=>by simp[wP] at e,λt a=>by simp[wP] at a⟩
theorem sh_asr (a:Int):∀f,kL f (wO a)
 |0=>trivial
 |f+1=>⟨λe=>by simp[wO] at e,λe=>by simp[wO] at e,λe=>by simp[wO] at e,λt b=>by simp[wO] at b⟩
theorem zaz {T:Tree}(b:5<=T.kind)(h:∀t∈T.kids,∀f,kL f t):∀f,kL f T
 |0=>trivial
 |f+1=>⟨λe=>oa,λe=>oa,λe=>oa,λt a=>h t a f⟩
theorem zgg (a:Fit L)(n:Nat):∀f,kL f (xP L T n)
 |0=>trivial
 |f+1=>⟨λe=>by simp[xP,vG] at e,λe=>by simp[xP,vG] at e,λ_=>Wv a _ _ [] [] ov ov,λt b=>by simp[xP,vG] at b⟩
theorem zco (a:Fit L){DT:Nat->Tree}(b:∀n f,kL f (DT n))(n f:Nat):kL f (xi L T DT n):=by unfold xi;split;exact b n f;split;exact zgg a n f;split;unfold oneT;split;rename_i h;have:=zcm (L:=L) (T:=T) h;rw[this];exact sh_short h f;exact zeN (escO_v a n) f;split;exact sh_any f;exact zeN (a n) f
theorem termT_sh (b:Fit L){D:Nat->Out}{DT:Nat->Tree}(a:∀n f,kL f (DT n))(n f:Nat):kL f (ja L T D DT n):=by unfold ja;split;exact sh_asr _ f;split;exact zco b a n f;refine zaz (by simp[vH]) (λt c f=>?_) f;obtain rfl:t=xi L T DT n:=(by simpa [vH] using c);exact zco b a n f
theorem Ww (d:Fit L){D:Nat->Out}{DT:Nat->Tree}(c:∀n f,kL f (DT n)):∀(g:Nat) (b:List Tree) (n:Nat),(∀t∈b,∀f,kL f t)->∀t∈ju L T D DT g b n,∀f,kL f t
 |0,_,_,h=>h
 |g+1,b,n,h=>by
  unfold ju;split;exact h;refine Ww d c g _ _ (λt a=>?_);rcases zgU.1 a with a|a;exact h t a;obtain rfl:=zgT.1 a;exact λf=>termT_sh d c n f
theorem zgh (b:Fit L){D:Nat->Out}{DT:Nat->Tree}(a:∀n f,kL f (DT n))(n f:Nat):kL f (xX L T D DT n):=
 zaz (by simp[xX,ZH]) (Ww b a _ [] n ov) f
theorem zeO (e:Fit L){D:Nat->Out}{DT:Nat->Tree}(d:∀n f,kL f (DT n)):∀(g:Nat) (b:List Tree) (n:Nat),(∀t∈b,∀f,kL f t)->∀t∈altT L T D DT g b n,∀f,kL f t
 |0,_,_,h=>h
 |g+1,b,n,h=>by
  have c:∀t∈b++[xX L T D DT n],∀f,kL f t:=λt a=>by rcases zgU.1 a with a|a;exact h t a;obtain rfl:=zgT.1 a;exact λf=>zgh e d n f
  unfold altT;split;exact zeO e d g _ _ c;exact c
theorem zeP (b:Fit L){D:Nat->Out}{DT:Nat->Tree}(a:∀n f,kL f (DT n))(n f:Nat):kL f (wG L T D DT n):=
 zaz (by simp[wG,tAlt]) (zeO b a _ [] n ov) f
theorem zcp (a:Fit L):∀(r n f:Nat),kL f (qC L T r n)
 |0,_,f=>sh_any f
 |r+1,_,f=>zeP a (λn f=>zcp a r n f) _ f
theorem whole_sh (a:Fit L)(r n f:Nat):kL f (wG L T (zD L T r) (qC L T r) n):=zeP a (λn f=>zcp a r n f) n f
end
end Pro
end
section
open Go.RowKit
open Sm (Tree)
namespace Eqv
variable {s:ByteArray} {L:List (Int×Int)}
def zK (a:List (Int×Int))(c:Int):Bool:=a.any λx=>decide (x.1<=c) && decide (c<=x.2)
def wQ (p:Pt)(c:Int):Bool:=zK p.spans c != p.neg
def anyPt (ps:List Pt)(c:Int):Bool:=ps.any λp=>wQ p c
def Y6 (t:Tok)(c:Int):Bool:=anyPt t.parts c != t.neg
def kG (a c:Int):Bool:=wQ ⟨decide (a<97),Ref.setL a⟩ c
def jZ (R:List (Int×Int))(S:List Int)(c:Int):Bool:=zK R c ||S.any λa=>kG a c
def tkTree (T:Tree)(c:Int):Bool:=
 if T.kind=1 then !zK [(10,10),(13,13),(8232,8233)] c
 else if T.kind=2 then decide (c=T.a)
 else if T.kind=3 then kG T.a c
 else if T.kind=4 then jZ T.rs T.ss c != T.neg
 else Z
def Wx (T:Tree):Prop:=1<=T.kind/\T.kind<=4
def LeafTok (t:Tok)(T:Tree):Prop:=Wx T/\(∀c,Y6 t c=tkTree T c)/\t.parts.length<=1000/\∀p∈t.parts,p.spans.length<=10
theorem inSp_one (a c:Int):zK [(a,a)] c=decide (c=a):=by
 unfold zK;simp only[List.any_cons,List.any_nil,ziu];by_cases h:c=a;subst h;simp
 grind
theorem inSp_append (a b:List (Int×Int))(c:Int):zK (a++b) c=(zK a c ||zK b c):=by unfold zK;rw[List.any_append]
theorem Vj (ps:List Pt)(p:Pt)(c:Int):anyPt (ps++[p]) c=(anyPt ps c ||wQ p c):=by unfold anyPt;simp[List.any_append]
theorem zeQ (R:List (Int×Int))(S:List Int)(x:Int×Int)(c:Int):jZ (R++[x]) S c=(jZ R S c ||zK [x] c):=by unfold jZ;rw[inSp_append];cases zK R c<;>cases zK [x] c<;>simp
theorem anyRS_s (R:List (Int×Int))(S:List Int)(a:Int)(c:Int):jZ R (S++[a]) c=(jZ R S c ||kG a c):=by unfold jZ;rw[List.any_append];simp[Bool.or_assoc]
theorem ZI (a:List (Int×Int))(c:Int):wQ ⟨Z,a⟩ c=zK a c:=by unfold wQ;simp
theorem zcq (cls:Bool){m q:Nat}(h:Br s L m q)(k:zd s q=92)(c:jj (zj L (m+1))=G):(zI s cls (st0 q)).1=⟨decide ((xO L s.size m).v<97),Ref.setL (xO L s.size m).v⟩:=by
 have j:=h.go k oa oa;have n:(st0 q).i=q:=rfl;have f:zj L (m+1)=zd s (q+1):=by rcases j.alike with⟨e,_⟩|⟨a,b⟩;exact e;rw[Km (Q a)] at c;cases c
 have d:=c;rw[f] at d;have o:=Kn d;have l:Ref.backB (zd s (q+1))=Z:=by rw[<-QZ];exact o.1
 have g:xO L s.size m=good (zj L (m+1)) (m+2):=by unfold xO;rw[IN c]
 rw[g];unfold zI;rw[n,iN (by simp[l]),IN ((Qi _).1 d)];show(⟨decide (zd s (q+1)<97),Ref.setL (zd s (q+1))⟩:Pt)=⟨decide (zj L (m+1)<97),Ref.setL (zj L (m+1))⟩
 rw[f]
theorem zcr {m q:Nat}(h:Br s L m q)(e:many L m=G):(zq s (st0 q)).1=⟨decide ((zp L s.size m).v<97),Ref.setL (zp L s.size m).v⟩:=by
 have j:(st0 q).i=q:=rfl;have a:zj L m=92/\jj (zj L (m+1))=G:=by unfold many at e;simpa using e
 have c:=(h.eqv 92 oa).1 a.1;have d:=Kn a.2;have f:zp L s.size m=xO L s.size m:=by unfold zp;rw[iN (λb=>d.2.2.2.1 b.2),iN (λb=>d.2.2.2.2 b.2),IN a.1]
 have g:zq s (st0 q)=zI s G (st0 q):=by unfold zq;rw[j,IN c]
 rw[g,f];exact zcq G h c a.2
theorem zaA {m q:Nat}(h:Br s L m q)(f:q<s.size)(e:(zp L s.size m).k=0)(c:Int):wQ (zq s (st0 q)).1 c=if many L m=G then kG (zp L s.size m).v c else zK [((zp L s.size m).v,(zp L s.size m).v)] c:=by
 by_cases a:many L m=G;rw[IN a,zcr h a];rfl;rw[iN a];have b:=(vu h f).2 e;have d:(zq s (st0 q)).2.1=G:=by rw[b.1];simp[a]
 rw[b.2 d,ZI]
theorem setL_bd (b:Int):(Ref.setL b).length<=10:=by
 unfold Ref.setL
 (repeat' split)<;>first|decide|simp
theorem Vk (cls:Bool)(h:St):(zI s cls h).1.spans.length<=10:=by unfold zI;split;simp;split;exact setL_bd _;simp
theorem zdS (h:St):(zq s h).1.spans.length<=10:=by unfold zq;split;exact Vk G h;split<;>simp
theorem Xw:∀(f:Nat) (ps:List Pt) (h:St),(∀p∈ps,p.spans.length<=10)->(∀p∈(yQ s f ps h).1,p.spans.length<=10)/\(yQ s f ps h).1.length<=ps.length+f
 |0,ps,h,a=>⟨a,by simp[yQ]⟩
 |f+1,ps,h,a=>by
  simp only[yQ];split
  .split;exact⟨a,ov⟩;split
   .split;exact⟨a,ov⟩;split;exact⟨a,ov⟩;have:=Xw f (ps++[⟨(zq s h).1.neg,[(loOf (zq s h).1,loOf (zq s ((zq s h).2.2.go 1)).1)]⟩]) (zq s ((zq s h).2.2.go 1)).2.2 (λp b=>by
     rcases zgU.1 b with b|b;exact a p b;simp at b;subst b;simp)
    exact⟨this.1,by have:=this.2;simp at this;omega⟩
   have:=Xw f (ps++[(zq s h).1]) (zq s h).2.2 (λp b=>by
    rcases zgU.1 b with b|b;exact a p b;simp at b;subst b;exact zdS h)
   exact⟨this.1,by have:=this.2;simp at this;omega⟩
  exact⟨a,ov⟩
theorem Yg:∀(f g:Nat) (ps:List Pt) (W:List (Int×Int)) (S:List Int) (n p:Nat),Br s L n p->L.length<n+f->s.size<p+g->(qS L s.size f n).k=0->(∀c,anyPt ps c=jZ W S c)->
  ∀c,anyPt (yQ s g ps (st0 p)).1 c=jZ (qK L s.size f n W S).1 (qK L s.size f n W S).2 c
 |0,g,ps,W,S,n,p,h,hf,hg,_,_=>by have:=h.le;omega
 |f+1,0,ps,W,S,n,p,h,hf,hg,_,_=>by have:=h.good.le;omega
 |f+1,g+1,ps,W,S,n,p,h,hf,hg,d,X=>by
  simp only[qS] at d;simp only[qK];by_cases r:zd s p=93
  .rw[IN ((h.eqv 93 oa).2 r),vh (λa=>a.2 r)];exact X
  .have hc:(st0 p).e=0/\zd s (st0 p).i≠93:=⟨rfl,r⟩
   have aA:¬zj L n=93:=λa=>r ((h.eqv 93 oa).1 a);rw[iN aA] at d ⊢;by_cases q:p<s.size
   .have aq:=h.lt.2 q;have aE:=(zw s p).2 q;have af:¬zd s (st0 p).i<0:=(by show ¬zd s p<0;omega);rw[iN oa] at d;have b:(qD L s.size n).k=0:=(by grind);rw[iN (by simp[b])] at d;have hm:=vu h q;have aG:=jQ (L:=L) (T:= s.size) n aq;have o:(zp L s.size n).k=0:=by
     by_cases a:(zp L s.size n).k=0
     .exact a
     .have m:qD L s.size n=zp L s.size n:=(by unfold qD;rw[IN a]);rw[m] at b;exact absurd b a
    obtain⟨m1,m2,_,j⟩:=hm.1.1 o;have y:=ZS m1 m2;have u:=VP j;have aw:=zaA h q o;cases hdd:jN L (zp L s.size n).n
    .rw[hdd] at u;have m:qD L s.size n=zp L s.size n:=(by unfold qD;rw[iN (by simp[o]),iN (by simp[hdd])]);rw[m] at d ⊢;rw[wC hc af (by rw[y,<-u];simp),y];have ap:p<(zq s (st0 p)).2.2.i:=by
      have:=j.good.le;by_cases a:p<(zq s (st0 p)).2.2.i
      .exact a
      .exfalso;have:=ZT h j oa;omega
     refine Yg f g _ _ _ _ _ j oa oa d (λc=>?_);rw[Vj,X c,aw c];by_cases l:many L n=G
     .have B:Zl L s.size n W=W:=(by unfold Zl;rw[iN (by simp[hdd]),IN l]);have F:Zm L s.size n S=S++[(zp L s.size n).v]:=(by unfold Zm;rw[iN (by simp[hdd]),IN l]);rw[IN l,B,F,anyRS_s]
     .have B:Zl L s.size n W=W++[((zp L s.size n).v,(zp L s.size n).v)]:=(by unfold Zl;rw[iN (by simp[hdd]),iN l]);have F:Zm L s.size n S=S:=(by unfold Zm;rw[iN (by simp[hdd]),iN l]);rw[iN l,B,F,zeQ]
    .rw[hdd] at u;have N:=Xl hdd;have an:=(j.eqv 45 oa).1 N.1;have ac:=j.go an oa oa;have ar:(zq s (st0 p)).2.2.i+1<s.size:=by
      by_cases a:(zq s (st0 p)).2.2.i+1<s.size
      .exact a
      .exact absurd ((ac.eqv (-1) oa).2 (qw _ _ oa)) N.2.2
     have al:=vu ac ar;have P:(zq s (st0 p)).2.2.go 1=st0 ((zq s (st0 p)).2.2.i+1):=(by rw[y];rfl);have au:jK s (zq s (st0 p)).2.2=G:=(by rw[y];exact u.symm);have aH:=jQ (L:=L) (T:= s.size) ((zp L s.size n).n+1) (QD N.2.2);have ab:qD L s.size n=xU L s.size (many L n) (zp L s.size n).v (zp L s.size n).n:=(by unfold qD;rw[iN (by simp[o]),IN hdd]);have w:(zp L s.size ((zp L s.size n).n+1)).k=0:=by
      by_cases a:(zp L s.size ((zp L s.size n).n+1)).k=0
      .exact a
      .rw[ab] at b;unfold xU at b;rw[IN a] at b;exact absurd b a
     have t:¬(many L n=G\/many L ((zp L s.size n).n+1)=G\/(zp L s.size ((zp L s.size n).n+1)).v<(zp L s.size n).v):=λa=>by
      rw[ab] at b;unfold xU at b;rw[iN (by simp[w]),IN a] at b;exact absurd b (by simp[Pro.bad])
     obtain⟨p1,p2,_,ad⟩:=al.1.1 w;have av:=ZS p1 p2;obtain⟨x,ai⟩:=hm.2 o;obtain⟨z,aj⟩:=al.2 w;have q1:many L n=Z:=(by cases hq:many L n;rfl;exact absurd (Q hq) t);have q2:many L ((zp L s.size n).n+1)=Z:=(by cases hq:many L ((zp L s.size n).n+1);rfl;exact absurd (O (Q hq)) t);rw[q1] at x;rw[q2] at z;have ao:¬badB (zq s (st0 p)).1 (zq s ((zq s (st0 p)).2.2.go 1)).1 (zq s (st0 p)).2.1 (zq s ((zq s (st0 p)).2.2.go 1)).2.1=G:=by
      rw[P];unfold badB;rw[ai x,aj z,x,z];have hv:¬(zp L s.size ((zp L s.size n).n+1)).v<(zp L s.size n).v:=λa=>t (O (O a));simp[loOf,hv]
     have m:qD L s.size n=zp L s.size ((zp L s.size n).n+1):=by
      rw[ab];unfold xU;rw[iN (by simp[w]),iN t]
     rw[m] at d ⊢;rw[vR hc af au (by rw[P];exact p1) ao,P,av];have ap:p<(zq s (st0 ((zq s (st0 p)).2.2.i+1))).2.2.i:=by
      by_cases a:p<(zq s (st0 ((zq s (st0 p)).2.2.i+1))).2.2.i
      .exact a
      .exfalso;have:=ZT h ad oa;omega
     refine Yg f g _ _ _ _ _ ad oa oa d (λc=>?_);rw[Vj,X c,ai x,aj z,ZI];unfold Zl Zm;rw[IN hdd,IN hdd,zeQ];rfl
   .have aF:=h.stop q;rw[IN oa] at d;exact absurd d (by simp[Pro.bad])
end Eqv
end
section
open Sm (Tree)
namespace Pro
def kM:Nat->Tree->Prop
 |0,_=>True
 |f+1,T=>(T.kind=4->T.rs.length<=1000/\T.ss.length<=1000)/\∀t∈T.kids,kM f t
section
variable {L:List (Int×Int)} {T:Int}
theorem addR_ln (n:Nat)(R:List (Int×Int)):(Zl L T n R).length<=R.length+1:=by unfold Zl;split;simp;split<;>simp
theorem addS_ln (n:Nat)(S:List Int):(Zm L T n S).length<=S.length+1:=by unfold Zm;split;simp;split<;>simp
theorem Wy:∀(f n:Nat) (W:List (Int×Int)) (S:List Int),(qK L T f n W S).1.length<=W.length+f/\(qK L T f n W S).2.length<=S.length+f
 |0,_,W,S=>⟨zgH _,zgH _⟩
 |f+1,n,W,S=>by
  unfold qK;split
  grind
  have a:=addR_ln (L:=L) (T:=T) n W;have b:=addS_ln (L:=L) (T:=T) n S;have c:=Wy f (qD L T n).n (Zl L T n W) (Zm L T n S);omega
theorem zeR (c:Int):∀f,kM f (ji c)
 |0=>trivial
 |f+1=>⟨λe=>by simp[ji] at e,λt a=>by simp[ji] at a⟩
theorem ln_short (c:Int):∀f,kM f (qJ c)
 |0=>trivial
 |f+1=>⟨λe=>by simp[qJ] at e,λt a=>by simp[qJ] at a⟩
theorem ln_any:∀f,kM f wP
 |0=>trivial
 |f+1=>⟨λe=>by simp[wP] at e,λt a=>by simp[wP] at a⟩
theorem ln_asr (a:Int):∀f,kM f (wO a)
 |0=>trivial
 |f+1=>⟨λe=>by simp[wO] at e,λt b=>by simp[wO] at b⟩
theorem zaB {T:Tree}(b:5<=T.kind)(h:∀t∈T.kids,∀f,kM f t):∀f,kM f T
 |0=>trivial
 |f+1=>⟨λe=>oa,λt a=>h t a f⟩
theorem zgi (b:L.length<=400)(n:Nat):∀f,kM f (xP L T n)
 |0=>trivial
 |f+1=>⟨λ_=>by
   have:=Wy (L:=L) (T:=T) (L.length+1-n) (if zj L (n+1)=94 then n+2 else n+1) [] [];simp only[zhe] at this;simp only[xP,vG];omega,λt a=>by simp[xP,vG] at a⟩
theorem zcs (b:L.length<=400){DT:Nat->Tree}(a:∀n f,kM f (DT n))(n f:Nat):kM f (xi L T DT n):=by unfold xi;split;exact a n f;split;exact zgi b n f;split;unfold oneT;split;exact ln_short _ f;exact zeR _ f;split;exact ln_any f;exact zeR _ f
theorem termT_ln (b:L.length<=400){D:Nat->Out}{DT:Nat->Tree}(a:∀n f,kM f (DT n))(n f:Nat):kM f (ja L T D DT n):=by unfold ja;split;exact ln_asr _ f;split;exact zcs b a n f;refine zaB (by simp[vH]) (λt c f=>?_) f;obtain rfl:t=xi L T DT n:=(by simpa [vH] using c);exact zcs b a n f
theorem Wz (d:L.length<=400){D:Nat->Out}{DT:Nat->Tree}(c:∀n f,kM f (DT n)):∀(g:Nat) (b:List Tree) (n:Nat),(∀t∈b,∀f,kM f t)->∀t∈ju L T D DT g b n,∀f,kM f t
 |0,_,_,h=>h
 |g+1,b,n,h=>by
  unfold ju;split;exact h;refine Wz d c g _ _ (λt a=>?_);rcases zgU.1 a with a|a;exact h t a;obtain rfl:=zgT.1 a;exact λf=>termT_ln d c n f
theorem zgj (b:L.length<=400){D:Nat->Out}{DT:Nat->Tree}(a:∀n f,kM f (DT n))(n f:Nat):kM f (xX L T D DT n):=
 zaB (by simp[xX,ZH]) (Wz b a _ [] n ov) f
theorem zeS (e:L.length<=400){D:Nat->Out}{DT:Nat->Tree}(d:∀n f,kM f (DT n)):∀(g:Nat) (b:List Tree) (n:Nat),(∀t∈b,∀f,kM f t)->∀t∈altT L T D DT g b n,∀f,kM f t
 |0,_,_,h=>h
 |g+1,b,n,h=>by
  have c:∀t∈b++[xX L T D DT n],∀f,kM f t:=λt a=>by rcases zgU.1 a with a|a;exact h t a;obtain rfl:=zgT.1 a;exact λf=>zgj e d n f
  unfold altT;split;exact zeS e d g _ _ c;exact c
theorem zeT (b:L.length<=400){D:Nat->Out}{DT:Nat->Tree}(a:∀n f,kM f (DT n))(n f:Nat):kM f (wG L T D DT n):=
 zaB (by simp[wG,tAlt]) (zeS b a _ [] n ov) f
theorem zct (a:L.length<=400):∀(r n f:Nat),kM f (qC L T r n)
 |0,_,f=>ln_any f
 |r+1,_,f=>zeT a (λn f=>zct a r n f) _ f
theorem whole_ln (a:L.length<=400)(r n f:Nat):kM f (wG L T (zD L T r) (qC L T r) n):=zeT a (λn f=>zct a r n f) n f
end
end Pro
end
