/- The program's reader: its cells, and its smallest methods. -/
import Derived.Test.YtofeiledkmfnfaaGreatDoorYBaseSemD
import Derived.Lib.Bytealg
import Derived.Laws.Runes
import Derived.Laws.RangeString
import Derived.WalkMore
import Derived.LoopN
import Derived.Laws.RangeAny
import Derived.Laws.BitsLemmas
import Derived.ScopeJumps
import Derived.RangeFuncWrites
import Derived.RangeFuncCalls
import Derived.RangeFuncNested
namespace Go.Proofs.YtofeiledkmfnfaaGreatDoor
open World renaming heap->N,cell?->l,frozen?->dz,alloc->dB,putObj_heap_other->dP
open _root_.Array renaming size->S,size->T,size->dg
open _root_.ByteArray renaming size->A
open Option renaming none->U,some->I
open Value renaming int->M,slice->K,bool->C,pointer->Ua,string->Uc,iface->Ud,tuple->Ue,nilIface->Ui
open IntKind renaming i64->J,i32->Ug
open Bool renaming false->Z,true->G
open _root_.Go.Proofs.Tryz renaming prog->V
open Go renaming World->E,Value->Y,Calls->Uh
open Go.RowKit renaming Hid->H
open Or renaming inr->O,inl->Q
open Ending renaming returned->R
open And renaming intro->Ur
open _root_.Go.Proofs.Tryz
open List renaming length->D
set_option maxHeartbeats 4000000
set_option maxRecDepth 1000000
section
open Go.RowKit
def TJ (w:E)(g:Nat)(L:Ai):Prop:=∀(j:Nat) (p:Int×Int),L[j]?=I p->l w ⟨g,j*2,U⟩=I (M J p.1)/\l w ⟨g,j*2+1,U⟩=I (M Ug p.2)
structure yg (w:E)(b:Nat)(L:Ai)(n:Nat)(len dp:Int):Prop where
 c0:(∃g cap,l w ⟨b,0,U⟩=I (K (I ⟨g,0,U⟩) (D L) cap)/\(D L)<=cap/\g<b/\TJ w g L)\/(L=[]/\l w ⟨b,0,U⟩=I (K U 0 0))
 c1:l w ⟨b,1,U⟩=I (M J n)
 c2:l w ⟨b,2,U⟩=I (M J len)
 c3:l w ⟨b,3,U⟩=I (M J dp)
 f1:dz w ⟨b,1,U⟩=Z
 f3:dz w ⟨b,3,U⟩=Z
theorem TJ.keep {P:Aj}{w u:E}{g:Nat}{L:Ai}(h:TJ w g L)(k:zg P w u)(b:¬P g):TJ u g L:=λj p a=>
 ⟨(k.cell (zic w _ (h j p a).1) b).trans (h j p a).1,(k.cell (zic w _ (h j p a).2) b).trans (h j p a).2⟩
theorem yg.lt {w:E}{b:Nat}{L:Ai}{n:Nat}{r dp:Int}(h:yg w b L n r dp):b<T (N w):=zic w ⟨b,1,U⟩ h.c1
theorem yg.keep {P:Aj}{w u:E}{b:Nat}{L:Ai}{n:Nat}{r dp:Int}(h:yg w b L n r dp)(k:zg P w u)(a:¬P b)(q:∀g,g<b->¬P g):yg u b L n r dp:=by have c:=h.lt;have⟨d,c1,f,i,f1,m⟩:=h;refine⟨?_,(k.cell (p:=⟨b,1,U⟩) c a).trans c1,(k.cell (p:=⟨b,2,U⟩) c a).trans f,(k.cell (p:=⟨b,3,U⟩) c a).trans i,(k.frozen (p:=⟨b,1,U⟩) c a).trans f1,(k.frozen (p:=⟨b,3,U⟩) c a).trans m⟩;obtain⟨g,l,d,o,e,t⟩|⟨rfl,d⟩:=d;refine Q ⟨g,l,(k.cell (p:=⟨b,0,U⟩) c a).trans d,o,e,?_⟩;intro j p s;exact t.keep k (q g e) j p s;exact O ⟨rfl,(k.cell (p:=⟨b,0,U⟩) c a).trans d⟩
theorem yg.drewN {w:E}{b:Nat}{L:Ai}{n:Nat}{r dp:Int}(h:yg w b L n r dp)(q:Nat):yg (w.drewN q) b L n r dp:=
 h.keep ((zg.refl (λ_=>False) w).drewN q) id (λ_ _ f=>f)
theorem yg.N1 {w:E}{b:Nat}{L:Ai}{n:Nat}{r dp:Int}(h:yg w b L n r dp)(m:Nat)(j:Int)(k:j=(m:Int)):yg (w.setCell ⟨b,1,U⟩ (M J j)) b L m r dp:=by subst k;have⟨a,c1,c,d,f1,f⟩:=h;refine⟨?_,AX _ _ _ c1,(AN _ _ _ _ ov).trans c,(AN _ _ _ _ ov).trans d,(zl _ _ _ _).trans f1,(zl _ _ _ _).trans f⟩;obtain⟨g,e,a,i,l,o⟩|⟨rfl,a⟩:=a;exact Q ⟨g,e,(AN _ _ _ _ ov).trans a,i,l,o.keep ((zg.refl (zr b) w).NS 1 _) Af⟩;exact O ⟨rfl,(AN _ _ _ _ ov).trans a⟩
namespace Ts
def zi (L:Ai)(k:Nat):Int:=match L[k]? with
 |some p=>p.2
 |none=>-1
def zA (L:Ai)(r:Int)(k:Nat):Int:=match L[k]? with
 |some p=>p.1
 |none=>r
theorem Vn {L:Ai}{k:Nat}(h:k<D L):zi L k=L[k].2:=by unfold zi;rw[AE h]
theorem qi {L:Ai}{k:Nat}(h:D L<=k):zi L k = -1:=by unfold zi;rw[Hh h]
theorem zec {L:Ai}{r:Int}{k:Nat}(h:k<D L):zA L r k=L[k].1:=by unfold zA;rw[AE h]
theorem Zq {L:Ai}{r:Int}{k:Nat}(h:D L<=k):zA L r k=r:=by unfold zA;rw[Hh h]
def vu (L:Ai)(n:Nat)(word:Al):Nat->Nat->Bool
 |0,_=>G
 |f+1,i=>if zi L (n+i)=ze word i then vu L n word f (i+1) else Z
def zD (L:Ai)(n:Nat)(word:Al):Bool:=vu L n word word.size 0
end Ts
theorem qr {k:IntKind}{a b:Int}(h:a=b):Ending.returned (M k a)=R (M k b):=by rw[h]
theorem XJ (b:Nat)(L:Ai)(n:Nat)(r dp:Int)(k:Nat)(w:E)(h:yg w b L n r dp)(m:D L<=400)(q:n<=1000)(p:k<=1000):Uh V 148 #[Ua (I ⟨b,0,U⟩),M J k] w λx u=>x=R (M Ug (Ts.zi L (n+k)))/\u=w:=by
 have⟨c,c1,f,i,f1,l⟩:=h;obtain⟨g,j,c,o,_,d⟩|⟨rfl,c⟩:=c
 .by_cases e:n+k<D L
  .have⟨s,t⟩:=d (n+k) L[n+k] (AE e);have a:H (Ts.zi L (n+k)=L[n+k].2):=Ts.Vn e;go_enter func148,ntmps148;go_wp2;go_ret;exact⟨qr a.out.symm,rfl⟩
  have a:H (Ts.zi L (n+k) = -1):=Ts.qi oa;go_enter func148,ntmps148;go_wp2;go_ret;exact⟨qr a.out.symm,rfl⟩
 have a:H (Ts.zi [] (n+k) = -1):=Ts.qi ov;go_enter func148,ntmps148;go_wp2;go_ret;exact⟨qr a.out.symm,rfl⟩
theorem jA (b:Nat)(L:Ai)(n:Nat)(r dp:Int)(w:E)(h:yg w b L n r dp)(d:D L<=400)(f:n<=1000):Uh V 146 #[Ua (I ⟨b,0,U⟩)] w λx u=>x=R (M Ug (Ts.zi L n))/\u=w:=by have c:=zd h;go_enter func146,ntmps146;go_wp2_with fail;refine(XJ b L n r dp 0 _ c d f oa).mono ?_;rintro e i ⟨rfl,a⟩;have g:=a.symm;subst g;go_wp2;go_ret;exact⟨rfl,rfl⟩
theorem vw (b:Nat)(L:Ai)(n:Nat)(r dp:Int)(w:E)(h:yg w b L n r dp):Uh V 53 #[Ua (I ⟨b,0,U⟩)] w λx u=>x=R (C ((n:Int) == (D L:Int)))/\∃q,u=w.drewN q:=by
 have⟨a,c1,d,e,f1,i⟩:=h;obtain⟨g,f,a,j,_,c⟩|⟨rfl,a⟩:=a
 .go_enter func53,ntmps53;go_wp2;go_quiet(fail);go_wp2;go_ret;exact⟨rfl,_,rfl⟩
 go_enter func53,ntmps53;go_wp2;go_quiet(fail);go_wp2;go_ret;exact⟨rfl,_,rfl⟩
theorem xD (c:Int)(w:E):Uh V 273 #[M Ug c] w λx u=>x=R (C (decide (48<=c) && decide (c<=57)))/\u=w:=by
 by_cases a:48<=c
 .by_cases b:c<=57
  .go_enter func273,ntmps273;go_wp2;go_ret;exact⟨by simp[a,b],rfl⟩
  go_enter func273,ntmps273;go_wp2;go_ret;exact⟨by simp;omega,rfl⟩
 go_enter func273,ntmps273;go_wp2;go_ret;exact⟨by simp;try omega,rfl⟩
theorem WW (b:Nat)(L:Ai)(n:Nat)(r dp:Int)(w:E)(h:yg w b L n r dp)(v:D L<=400)(m:n<=D L):Uh V 102 #[Ua (I ⟨b,0,U⟩)] w λx u=>x=R (M J (Ts.zA L r n))/\∃q,u=w.drewN q:=by
 have c:=zd h;have⟨d,c1,o,p,f1,t⟩:=h;obtain⟨g,s,d,y,_,i⟩|⟨rfl,d⟩:=d
 .by_cases j:n<D L
  .have⟨z,B⟩:=i n L[n] (AE j);have a:H (Ts.zA L r n=L[n].1):=Ts.zec j;have f:((n:Int) == (D L:Int))=Z:=ou;go_enter func102,ntmps102;go_wp2_with fail;refine(vw b L n r dp _ c).mono ?_;rintro e l ⟨rfl,q,rfl⟩;go_wp2;go_quiet(fail);go_wp2;go_ret;exact⟨qr a.out.symm,_,by rw[LA]⟩
  have a:H (Ts.zA L r n=r):=Ts.Zq oa;have f:((n:Int) == (D L:Int))=G:=ou;go_enter func102,ntmps102;go_wp2_with fail;refine(vw b L n r dp _ c).mono ?_;rintro e l ⟨rfl,q,rfl⟩;go_wp2;go_ret;exact⟨qr a.out.symm,_,rfl⟩
 have k:n=0:=by simpa using m
 have a:H (Ts.zA [] r n=r):=Ts.Zq ov;have f:((n:Int) == ((([]:Ai).length:Nat):Int))=G:=by simp[k]
 go_enter func102,ntmps102;go_wp2_with fail;refine(vw b [] n r dp _ c).mono ?_;rintro e l ⟨rfl,q,rfl⟩;rw[f];go_wp2;go_ret;exact⟨qr a.out.symm,_,rfl⟩
theorem ZT (s:Al)(k:Nat)(a:k<A s)(i:Int)(b:i=(k:Int))(w:E):(Instr.index 9 (Uc s) (M J i)).run V w=.ok (M .u8 (ze s k)) w:=by subst b;rw[run_index_string w 9 s J (k:Int) underlying9,yY s k a];simp[a]
namespace Ts
def behind (L:Ai)(n:Nat)(word:Al):Nat:=if zD L n word=G then n+word.size else n
theorem Qy {L:Ai}{n:Nat}{word:Al}(h:zD L n word=G):behind L n word=n+word.size:=by unfold behind;rw[IN h]
theorem JJ {L:Ai}{n:Nat}{word:Al}(h:zD L n word=Z):behind L n word=n:=by unfold behind;rw[iN (by simp[h])]
theorem zed {L:Ai}{n:Nat}{word:Al}{f i:Nat}(h:zi L (n+i)=ze word i):vu L n word (f+1) i=vu L n word f (i+1):=by simp only[vu];rw[IN h]
theorem zgv {L:Ai}{n:Nat}{word:Al}{f i:Nat}(h:¬zi L (n+i)=ze word i):vu L n word (f+1) i=Z:=by simp only[vu];rw[iN h]
end Ts
theorem take_all (b:Nat)(L:Ai)(n:Nat)(r dp:Int)(word:Al)(w:E)(h:yg w b L n r dp)(i:D L<=400)(j:n<=1000)(S:word.size<=10):Uh V 101 #[Ua (I ⟨b,0,U⟩),Uc word] w λx u=>(Ts.zD L n word=G/\x=R (C G)/\∃q,u=(w.drewN q).setCell ⟨b,1,U⟩ (M J ((n+word.size:Nat):Int)))\/(Ts.zD L n word=Z/\x=R (C Z)/\∃q,u=w.drewN q):=by
 have d:=zd h;go_enter func101,ntmps101;go_wp2;go_loopw[8] (λc wr=>∃(k q:Nat),c=M J k/\k<=word.size/\wr=w.drewN q/\H (Ts.zD L n word=Ts.vu L n word (word.size-k) k)) (λc _=>word.size-(intOf c).toNat);exact⟨0,0,rfl,oa,rfl,rfl⟩;obtain⟨k,q,rfl,P,rfl,g⟩:=hrel;by_cases p:k<word.size
 .have N:∀f,(Instr.index 9 (Uc word) (M J (k:Int))).run V f=.ok (M .u8 (ze word k)) f:=λf=>ZT word k p _ rfl f;have z:=jJ word k;have B:=xk word k;have F:IntKind.i32.wrap (ze word k)=ze word k:=(by simp[IntKind.wrap,IntKind.bits,IntKind.signed];omega);by_cases a:Ts.zi L (n+k)=ze word k
  .have o:(Ts.zi L (n+k) != ze word k)=Z:=(by simp[a]);have HG:H (Ts.zD L n word=Ts.vu L n word (word.size-(k+1)) (k+1)):=(by rw[zb g,show word.size-k=(word.size-(k+1))+1 by omega];exact Ts.zed a);go_wp2;go_quiet((go_at_call 148;exact(XJ b L n r dp k _ (by first|exact d.drewN _|exact d) i j oa).mono (by rintro e s ⟨rfl,rfl⟩;exact⟨rfl,_,rfl⟩)));go_wp2;go_roundw
   .exact⟨k+1,_,Ae,oa,rfl,HG⟩
   simp[intOf];omega
  have o:(Ts.zi L (n+k) != ze word k)=G:=(by simp[a]);have HG:H (Ts.zD L n word=Z):=(by rw[zb g,show word.size-k=(word.size-(k+1))+1 by omega];exact Ts.zgv a);go_wp2;go_quiet((go_at_call 148;exact(XJ b L n r dp k _ (by first|exact d.drewN _|exact d) i j oa).mono (by rintro e s ⟨rfl,rfl⟩;exact⟨rfl,_,rfl⟩)));go_wp2;go_ret;exact O ⟨HG,rfl,by first|exact⟨_,rfl⟩|exact⟨_,by rw[LA]⟩⟩
 have HG:H (Ts.zD L n word=G):=(by rw[zb g,show word.size-k=0 by omega];rfl);have m:=zb d;have⟨l,c1,t,v,f1,y⟩:=m;go_wp2;go_ret;exact Q ⟨HG,rfl,q,ov⟩
theorem Ym (b:Nat)(L:Ai)(n:Nat)(r dp:Int)(word:Al)(w:E)(h:yg w b L n r dp)(c:D L<=400)(f:n<=1000)(g:word.size<=10)(d:Ts.zD L n word=Z):Uh V 101 #[Ua (I ⟨b,0,U⟩),Uc word] w λx u=>x=R (C Z)/\∃q,u=w.drewN q:=
 (take_all b L n r dp word w h c f g).mono (by
  rintro e i (⟨a,_⟩|⟨_,a⟩);rw[d] at a;cases a;exact a)
theorem j4 (b:Nat)(L:Ai)(n:Nat)(r dp:Int)(word:Al)(w:E)(h:yg w b L n r dp)(c:D L<=400)(f:n<=1000)(g:word.size<=10)(d:Ts.zD L n word=G):Uh V 101 #[Ua (I ⟨b,0,U⟩),Uc word] w λx u=>x=R (C G)/\yg u b L (n+word.size) r dp/\zg (zr b) w u:=
 (take_all b L n r dp word w h c f g).mono (by
  rintro e i (⟨_,rfl,q,rfl⟩|⟨a,_⟩);exact⟨rfl,(h.drewN q).N1 _ _ rfl,((zg.refl _ _).drewN q).NS _ _⟩;rw[d] at a;cases a)
theorem zb1 (b:Nat)(L:Ai)(n:Nat)(r dp:Int)(word:Al)(w:E)(h:yg w b L n r dp)(a:D L<=400)(c:n<=1000)(d:word.size<=10):Uh V 101 #[Ua (I ⟨b,0,U⟩),Uc word] w λx u=>x=R (C (Ts.zD L n word))/\yg u b L (Ts.behind L n word) r dp/\zg (zr b) w u:=by cases hm:Ts.zD L n word;rw[Ts.JJ hm];exact(Ym b L n r dp word w h a c d hm).mono (by rintro e f ⟨rfl,q,rfl⟩;exact⟨rfl,h.drewN q,(zg.refl _ _).drewN q⟩);rw[Ts.Qy hm];exact j4 b L n r dp word w h a c d hm
namespace Ts
def hexV (b:Int):Int:=if 48<=b/\b<=57 then b-48 else if 97<=b/\b<=102 then b-87 else if 65<=b/\b<=70 then b-55 else -1
def hexN (b:Int):Int:=if hexV b<0 then 0 else hexV b
def Yn (b:Int):Bool:=decide (0<=hexV b)
end Ts
theorem Qz {k:IntKind}{a b:Int}{c d:Bool}(h:a=b)(g:c=d):Ending.returned (Ue #[M k a,C c])=R (Ue #[M k b,C d]):=by rw[h,g]
theorem wE (c:Int)(w:E)(p:-1<=c)(q:c<=1114111):Uh V 286 #[M Ug c] w λx u=>x=R (Ue #[M Ug (Ts.hexN c),C (Ts.Yn c)])/\u=w:=by
 have d:(decide (48<=c) && decide (c<=57))=G\/((decide (48<=c) && decide (c<=57))=Z/\¬(48<=c/\c<=57)):=by grind
 obtain d|⟨d,g⟩:=d
 .have n:48<=c/\c<=57:=by simpa using d
  have a:H (Ts.hexN c=c-48/\Ts.Yn c=G):=by have e:Ts.hexV c=c-48:=(by unfold Ts.hexV;rw[IN n]);exact⟨by unfold Ts.hexN;rw[e,iN oa],by unfold Ts.Yn;rw[e];simp;omega⟩
  go_enter func286,ntmps286;go_wp2_with fail;refine(xD c _).mono ?_;rintro e j ⟨rfl,b⟩;have h:=b.symm;subst h;rw[d];go_wp2;go_ret2;rw[a.out.1,a.out.2];exact⟨Qz (by first|rfl|omega) rfl,rfl⟩
 by_cases f:97<=c/\c<=102
 ·(have a:H (Ts.hexN c=c-97+10/\Ts.Yn c=G):=by have e:Ts.hexV c=c-87:=(by unfold Ts.hexV;rw[iN g,IN f]);exact⟨by unfold Ts.hexN;rw[e,iN oa];omega,by unfold Ts.Yn;rw[e];simp;omega⟩);have⟨l,m⟩:=f;go_enter func286,ntmps286;go_wp2_with fail;refine(xD c _).mono ?_;rintro e j ⟨rfl,b⟩;have h:=b.symm;subst h;rw[d];go_wp2;go_ret2;rw[a.out.1,a.out.2];exact⟨Qz (by first|rfl|omega) rfl,rfl⟩
 by_cases i:65<=c/\c<=70
 ·(have a:H (Ts.hexN c=c-65+10/\Ts.Yn c=G):=by have e:Ts.hexV c=c-55:=(by unfold Ts.hexV;rw[iN g,iN f,IN i]);exact⟨by unfold Ts.hexN;rw[e,iN oa];omega,by unfold Ts.Yn;rw[e];simp;omega⟩);have⟨l,m⟩:=i;have o:¬97<=c:=oa;go_enter func286,ntmps286;go_wp2_with fail;refine(xD c _).mono ?_;rintro e j ⟨rfl,b⟩;have h:=b.symm;subst h;rw[d];go_wp2;go_ret2;rw[a.out.1,a.out.2];exact⟨Qz (by first|rfl|omega) rfl,rfl⟩
 (have a:H (Ts.hexN c=0/\Ts.Yn c=Z):=by have e:Ts.hexV c = -1:=(by unfold Ts.hexV;rw[iN g,iN f,iN i]);exact⟨by unfold Ts.hexN;rw[e];rfl,by unfold Ts.Yn;rw[e];rfl⟩);have k:=zd (Ur g (Ur f i));go_enter func286,ntmps286;go_wp2_with fail;refine(xD c _).mono ?_;rintro e j ⟨rfl,b⟩;have h:=b.symm;subst h;rw[d];go_wp2_with fail
 all_goals first
  |(exfalso;have:=zb k;omega)
  |skip
 all_goals
  go_ret2;rw[a.out.1,a.out.2];exact⟨rfl,rfl⟩
def zJ (w:E)(base:Nat)(v:Y)(kind:Y)(p:Int):Prop:=∃g,base<=g/\v=Ud 139 (Ua (I ⟨g,0,U⟩))/\l w ⟨g,0,U⟩=I kind/\l w ⟨g,1,U⟩=I (M J p)
theorem zJ.keep {P:Aj}{w u:E}{base:Nat}{v d:Y}{p:Int}(h:zJ w base v d p)(k:zg P w u)(c:∀g,base<=g->¬P g):zJ u base v d p:=by obtain⟨g,a,rfl,b,c1⟩:=h;exact⟨g,a,rfl,(k.cell (zic w _ b) (c g a)).trans b,(k.cell (zic w _ c1) (c g a)).trans c1⟩
theorem zJ.base {w:E}{base base':Nat}{v a:Y}{p:Int}(h:zJ w base v a p)(b:base'<=base):zJ w base' v a p:=by have⟨g,c,rest⟩:=h;exact⟨g,oa,rest⟩
theorem jt (T:TypeId)(x:Y)(p:Int)(w:E):Uh V 55 #[Ud T x,M J p] w λe u=>∃v,e=R v/\zJ u (S (N w)) v (Ud T x) p/\zke w u:=by go_enter func55,ntmps55;go_wp2;go_ret;exact⟨_,rfl,⟨_,by first|exact AD _|simp,rfl,by first|(rw[MA _ _ _ _ rfl];rfl),by first|(rw[MA _ _ _ _ rfl];rfl)⟩,Ag⟩
theorem zgw (b:Nat)(L:Ai)(n:Nat)(r dp:Int)(w:E)(h:yg w b L n r dp)(f:D L<=400)(g:n<=D L)(T:TypeId)(d:Y)(k:l w ⟨9,0,U⟩=I (Ud T d)):Uh V 54 #[Ua (I ⟨b,0,U⟩)] w λx u=>∃v,x=R v/\zJ u (S (N w)) v (Ud T d) (Ts.zA L r n)/\zke w u:=by
 have a:=zd h;go_enter func54,ntmps54;go_wp2;go_region_with(first
  |(go_at_call 102;refine(WW b L n r dp _ (by first|exact a|exact a.drewN _) f g).mono ?_;rintro e j ⟨rfl,q,rfl⟩)
  |(go_at_call 55;refine(jt _ _ _ _).mono ?_;rintro e j ⟨v,rfl,i,c⟩))
 all_goals go_wp2_with fail
 all_goals go_ret
 all_goals exact⟨v,rfl,i,by first|exact Ah.trans c|exact(Ah.drewN _).trans c⟩
def z7 (a:Nat->Addr)(k:Nat):Y:=Ud 421 (Ua (I (a k)))
structure ym (w:E)(a:Nat->Addr):Prop where
 s1:l w ⟨1,0,U⟩=I (z7 a 1)
 s2:l w ⟨2,0,U⟩=I (z7 a 2)
 s3:l w ⟨9,0,U⟩=I (z7 a 3)
 s4:l w ⟨3,0,U⟩=I (z7 a 4)
 s5:l w ⟨4,0,U⟩=I (z7 a 5)
 s6:l w ⟨5,0,U⟩=I (z7 a 6)
 s7:l w ⟨6,0,U⟩=I (z7 a 7)
 s8:l w ⟨0,0,U⟩=I (z7 a 8)
theorem ym.keep {P:Aj}{w u:E}{a:Nat->Addr}(h:ym w a)(k:zg P w u)(e:∀j,j<10->¬P j):ym u a:=
 have c:∀j v,l w ⟨j,0,U⟩=I v->j<10->l u ⟨j,0,U⟩=I v:=λj v b d=>(k.cell (p:=⟨j,0,U⟩) (zic w ⟨j,0,U⟩ b) (e j d)).trans b
 ⟨c _ _ h.s1 od,c _ _ h.s2 od,c _ _ h.s3 od,c _ _ h.s4 od,c _ _ h.s5 od,c _ _ h.s6 od,c _ _ h.s7 od,c _ _ h.s8 od⟩
theorem vJ (b:Nat)(L:Ai)(n:Nat)(r dp:Int)(a:Nat->Addr)(w:E)(h:yg w b L n r dp)(d:ym w a)(c:D L<=400)(e:n<=D L):Uh V 54 #[Ua (I ⟨b,0,U⟩)] w λx u=>∃v,x=R v/\zJ u (T (N w)) v (z7 a 3) (Ts.zA L r n)/\zke w u:=
 zgw b L n r dp w h c e _ _ d.s3
theorem zJ.form {w:E}{base:Nat}{v a:Y}{p:Int}(h:zJ w base v a p):∃g,v=Ud 139 (Ua (I ⟨g,0,U⟩)):=⟨h.choose,h.choose_spec.2.1⟩
theorem CY (b:Nat)(L:Ai)(n:Nat)(r dp:Int)(a:Nat->Addr)(w:E)(h:yg w b L n r dp)(j:ym w a)(g:D L<=400)(m:n<=D L):Uh V 268 #[Ua (I ⟨b,0,U⟩)] w λx u=>zke w u/\(((decide (48<=Ts.zi L n) && decide (Ts.zi L n<=57))=Z/\x=R (Ue #[M Ug 0,Ui]))\/ ((decide (48<=Ts.zi L n) && decide (Ts.zi L n<=57))=G/\∃v,x=R (Ue #[M Ug 0,v])/\zJ u (T (N w)) v (z7 a 3) (Ts.zA L r n))):=by
 have f:=zd h;have k:=zd j;cases hd:(decide (48<=Ts.zi L n) && decide (Ts.zi L n<=57))
 .go_enter func268,ntmps268;go_wp2_with fail;refine(jA b L n r dp _ f g oa).mono ?_;rintro e i ⟨rfl,c⟩;have d:=c.symm;subst d;go_wp2_with fail;refine(xD _ _).mono ?_;rintro e i ⟨rfl,c⟩;have d:=c.symm;subst d;rw[hd];go_wp2;go_ret2;exact⟨zg.refl _ _,Q ⟨trivial,rfl⟩⟩
 go_enter func268,ntmps268;go_wp2_with fail;refine(jA b L n r dp _ f g oa).mono ?_;rintro e i ⟨rfl,c⟩;have d:=c.symm;subst d;go_wp2_with fail;refine(xD _ _).mono ?_;rintro e i ⟨rfl,c⟩;have d:=c.symm;subst d;rw[hd];go_wp2_with fail;refine(vJ b L n r dp a _ f k g m).mono ?_;rintro e p ⟨v,rfl,o,l⟩;go_wp2;go_ret2;exact⟨l,O ⟨trivial,v,rfl,o⟩⟩
namespace Ts
structure Out where
 k:Nat
 p:Int
 v:Int
 n:Nat
def bad (k:Nat)(p:Int)(n:Nat):Out:=⟨k,p,0,n⟩
def good (v:Int)(n:Nat):Out:=⟨0,0,v,n⟩
def Fit (L:Ai):Prop:=∀k,-1<=zi L k/\zi L k<=1114111
def dig (c:Int):Bool:=decide (48<=c) && decide (c<=57)
def wt (L:Ai)(r:Int)(n:Nat):Out:=if dig (zi L n)=G then bad 3 (zA L r n) n else good 0 n
abbrev letter (c:Int):Prop:=(97<=c/\c<=122)\/(65<=c/\c<=90)
def xQ (L:Ai)(r:Int)(n:Nat):Out:=if letter (zi L n) then good (zi L n % 32) (n+1) else bad 3 (zA L r n) n
def yG (L:Ai)(r:Int):Nat->Int->Nat->Out
 |0,c,n=>good c n
 |f+1,c,n=>if hexV (zi L n)<0 then bad 3 (zA L r n) n else yG L r f (16*c+hexV (zi L n)) (n+1)
def xL (L:Ai)(r:Int):Nat->Int->Nat->Nat->Out
 |0,c,_,n=>good c n
 |f+1,c,d,n=>
  if 0<d/\zi L n=125 then good c (n+1)
  else if hexV (zi L n)<0\/1114111<16*c+hexV (zi L n) then bad 3 (zA L r n) n
  else xL L r f (16*c+hexV (zi L n)) (d+1) (n+1)
def kL (L:Ai)(r:Int)(n:Nat):Out:=xL L r (D L+1-n) 0 0 n
def kE (L:Ai)(r:Int)(n:Nat):Int:=if zi L n=92/\zi L (n+1)=117/\(yG L r 4 0 (n+2)).k=0/\56320<=(yG L r 4 0 (n+2)).v/\(yG L r 4 0 (n+2)).v<=57343 then(yG L r 4 0 (n+2)).v else -1
def yi (L:Ai)(r:Int)(n:Nat):Out:=
 if(yG L r 4 0 n).k≠0\/(yG L r 4 0 n).v<55296\/56319<(yG L r 4 0 n).v then yG L r 4 0 n
 else if 0<=kE L r (yG L r 4 0 n).n then good (65536+((yG L r 4 0 n).v-55296)*1024+(kE L r (yG L r 4 0 n).n-56320)) ((yG L r 4 0 n).n+6)
 else yG L r 4 0 n
def ctlV (b:Int):Int:=if b=116 then 9 else if b=110 then 10 else if b=118 then 11 else if b=102 then 12 else if b=114 then 13 else -1
def sign (b:Int):Bool:=[94,36,92,46,42,43,63,40,41,91,93,123,125,124,47].any λc=>decide (c=b)
def kM (b:Int):Bool:=decide (0<=ctlV b) ||sign b
def vR (b:Int):Int:=if 0<=ctlV b then ctlV b else b
def vS (L:Ai)(r:Int)(n:Nat):Out:=
 if kM (zi L n)=G then good (vR (zi L n)) (n+1)
 else if zi L n=48 then wt L r (n+1)
 else if zi L n=99 then xQ L r (n+1)
 else if zi L n=120 then yG L r 2 0 (n+1)
 else if zi L n=117/\zi L (n+1)=123 then kL L r (n+2)
 else if zi L n=117 then yi L r (n+1)
 else bad 3 (zA L r n) n
def jy (b:Int):Bool:=[100,68,119,87,115,83].any λc=>decide (c=b)
def backB (b:Int):Bool:=[49,50,51,52,53,54,55,56,57,107,112,80].any λc=>decide (c=b)
def xR (L:Ai)(r:Int)(n:Nat):Out:=
 if jy (zi L (n+1))=G then good (zi L (n+1)) (n+2)
 else if backB (zi L (n+1))=G then bad 6 (zA L r n) (n+1)
 else vS L r (n+1)
def zm (L:Ai)(r:Int)(n:Nat):Out:=
 if zi L n=92/\zi L (n+1)=98 then good 8 (n+2)
 else if zi L n=92/\zi L (n+1)=45 then good 45 (n+2)
 else if zi L n=92 then xR L r n
 else good (zi L n) (n+1)
def many (L:Ai)(n:Nat):Bool:=decide (zi L n=92) && jy (zi L (n+1))
def j5 (L:Ai)(n:Nat):Bool:=decide (zi L n=45) && decide (zi L (n+1)≠93) && decide (zi L (n+1)≠-1)
def qd (L:Ai)(r:Int)(m:Bool)(first:Int)(n:Nat):Out:=
 if(zm L r (n+1)).k≠0 then zm L r (n+1)
 else if m=G\/many L (n+1)=G\/(zm L r (n+1)).v<first then bad 4 (zA L r n) (zm L r (n+1)).n
 else zm L r (n+1)
def qO (L:Ai)(r:Int)(n:Nat):Out:=
 if(zm L r n).k≠0 then zm L r n
 else if j5 L (zm L r n).n=G then qd L r (many L n) (zm L r n).v (zm L r n).n
 else zm L r n
def ja (L:Ai)(r:Int):Nat->Nat->Out
 |0,n=>good 1 n
 |f+1,n=>
  if zi L n=93 then good 1 (n+1)
  else if (D L)<=n then bad 3 r n
  else if(qO L r n).k≠0 then qO L r n
  else ja L r f (qO L r n).n
def qG (L:Ai)(r:Int)(n:Nat):Out:=ja L r (D L+1-n) (if zi L (n+1)=94 then n+2 else n+1)
def countL (L:Ai):Nat->Int->Nat->Int×Nat
 |0,c,n=>(c,n)
 |f+1,c,n=>if dig (zi L n)=G then countL L f (min (c*10+(zi L n-48)) 101) (n+1) else(c,n)
def countP (L:Ai)(n:Nat):Int×Nat:=countL L (D L+1-n) 0 n
def yx (L:Ai)(r:Int)(n:Nat):Out:=
 if dig (zi L n)=Z then bad 3 (zA L r n) n
 else if 100<(countP L n).1 then bad 5 (zA L r n) (countP L n).2
 else good (countP L n).1 (countP L n).2
def yh (L:Ai)(r:Int)(n:Nat):Out×Int:=
 let a:=yx L r (n+1)
 if a.k≠0 then(a,0)
 else if zi L a.n=125 then(good a.v (a.n+1),a.v)
 else if zi L a.n≠44 then(bad 3 (zA L r a.n) a.n,0)
 else if zi L (a.n+1)=125 then(good a.v (a.n+2),-1)
 else
  let m:=yx L r (a.n+1)
  if m.k≠0 then(m,0)
  else if zi L m.n≠125 then(bad 3 (zA L r m.n) m.n,0)
  else if m.v<a.v then(bad 4 (zA L r n) (m.n+1),0)
  else(good a.v (m.n+1),m.v)
end Ts
def xI (b:Nat)(L:Ai)(r dp:Int)(a:Nat->Addr)(w:E)(o:Ts.Out)(yes no:Y)(x:Ending)(u:E):Prop:=
 zg (zr b) w u/\yg u b L o.n r dp/\((o.k=0/\x=R (Ue #[yes,Ui]))\/(o.k≠0/\∃v,x=R (Ue #[no,v])/\zJ u (T (N w)) v (z7 a o.k) o.p))
theorem qt {u:E}{base:Nat}{a:Nat->Addr}{o:Ts.Out}{yes no:Y}{x:Ending}(h:(o.k=0/\x=R (Ue #[yes,Ui]))\/(o.k≠0/\∃v,x=R (Ue #[no,v])/\zJ u base v (z7 a o.k) o.p))(b:o.k=0):x=R (Ue #[yes,Ui]):=by grind
theorem XK {u:E}{base:Nat}{a:Nat->Addr}{o:Ts.Out}{yes no:Y}{x:Ending}(h:(o.k=0/\x=R (Ue #[yes,Ui]))\/(o.k≠0/\∃v,x=R (Ue #[no,v])/\zJ u base v (z7 a o.k) o.p))(b:o.k≠0):∃v,x=R (Ue #[no,v])/\zJ u base v (z7 a o.k) o.p:=by grind
theorem ym.NS {b:Nat}{w u:E}{a:Nat->Addr}(h:ym w a)(k:zg (zr b) w u)(c:10<=b):ym u a:=h.keep k (λj d e=>by unfold zr at e;omega)
theorem ym.drewN {w:E}{a:Nat->Addr}(h:ym w a)(q:Nat):ym (w.drewN q) a:=h.keep ((zg.refl (λ_=>False) w).drewN q) (λ_ _ f=>f)
theorem vK {b:Nat}{L:Ai}{r dp:Int}{a:Nat->Addr}{w u:E}{o:Ts.Out}{yes no v:Y}{k n:Nat}{p:Int}(g:o=Ts.bad k p n)(f:k≠0)(d:zg (zr b) w u)(e:yg u b L n r dp)(c:zJ u (T (N w)) v (z7 a k) p):xI b L r dp a w o yes no (R (Ue #[no,v])) u:=by subst g;exact⟨d,e,O ⟨f,v,rfl,c⟩⟩
theorem kp {b:Nat}{L:Ai}{r dp:Int}{a:Nat->Addr}{w u:E}{o:Ts.Out}{yes c no:Y}{v:Int}{n:Nat}(f:o=Ts.good v n)(g:c=yes)(d:zg (zr b) w u)(e:yg u b L n r dp):xI b L r dp a w o yes no (R (Ue #[c,Ui])) u:=by subst f;subst g;exact⟨d,e,Q ⟨rfl,rfl⟩⟩
theorem zgx (x:Int)(a:0<=x)(b:x<2147483648):bits .and Ug x 31=x % 32:=bits_mask Ug 31 od wraps_i32 5 od x a oa
theorem zgy (k:Nat)(h:k<=4):(16:Int) ^ k<=65536:=by have:k=0\/k=1\/k=2\/k=3\/k=4:=oa;obtain rfl|rfl|rfl|rfl|rfl:=this<;>decide
namespace Ts
theorem hexV_hi (b:Int):hexV b<=15:=by unfold hexV;(repeat' split)<;>omega
theorem zfl (b:Int):-1<=hexV b:=by unfold hexV;(repeat' split)<;>omega
theorem YZ {L:Ai}{r:Int}{f n:Nat}{c:Int}(h:hexV (zi L n)<0):yG L r (f+1) c n=bad 3 (zA L r n) n:=by simp only[yG];rw[IN h]
theorem ZU {L:Ai}{r:Int}{f n:Nat}{c:Int}(h:0<=hexV (zi L n)):yG L r (f+1) c n=yG L r f (16*c+hexV (zi L n)) (n+1):=by simp only[yG];rw[iN oa]
theorem QS {L:Ai}{n:Nat}(h:0<=hexV (zi L n)):n<D L:=by by_cases a:n<D L;exact a;rw[qi oa] at h;exact absurd h od
end Ts
theorem NA (x y:Int)(b:0<=x)(c:x<134217728)(a:0<=y)(d:y<16):bits .or Ug (x*16) y=16*x+y:=by rw[bits_join Ug 31 od wraps_i32 4 (x*16) y oa oa oa a oa oa];omega
theorem zg.none {P:Aj}{w u:E}(h:zke w u):zg P w u:=h.mono (λ_ _ f=>f.elim)
theorem zaY (b:Nat)(L:Ai)(n:Nat)(r dp:Int)(a:Nat->Addr)(w:E)(h:yg w b L n r dp)(l:ym w a)(_u:10<=b)(i:D L<=400)(y:n<=D L)(j:Ts.Fit L):Uh V 269 #[Ua (I ⟨b,0,U⟩)] w (xI b L r dp a w (Ts.xQ L r n) (M Ug (Ts.xQ L r n).v) (M Ug 0)):=by
 have c:=zd h;have m:=zd l;have x:=j n;by_cases g:Ts.letter (Ts.zi L n)
 .have d:H (Ts.xQ L r n=Ts.good (Ts.zi L n % 32) (n+1)):=by unfold Ts.xQ;rw[IN g];rfl
  have⟨o,c1,p,q,f1,s⟩:=h;unfold Ts.letter at g;go_enter func269,ntmps269;go_wp2_with(go_at_call 146;refine AL (jA b L (n) r dp _ c i oa) ?_)
  all_goals
   go_ret2;refine kp d ?_ ((zg.refl _ _).NS _ _) (c.N1 _ _ oa);rw[zb d];show M Ug _=M Ug _;rw[zgx _ oa oa];rfl
 have d:H (Ts.xQ L r n=Ts.bad 3 (Ts.zA L r n) n):=by unfold Ts.xQ;rw[iN g];rfl
 unfold Ts.letter at g;go_enter func269,ntmps269;go_wp2_with(first|(go_at_call 146;refine AL (jA b L (n) r dp _ c i oa) ?_)|(go_at_call 54;refine(vJ b L (n) r dp a _ c m i oa).mono ?_;rintro e z ⟨v,rfl,t,k⟩))
 all_goals
  go_ret2;exact vK d od k.none (c.keep k id (λ_ _ f=>f)) t
theorem xO (b:Nat)(L:Ai)(n:Nat)(r dp:Int)(a:Nat->Addr)(d:Nat)(w:E)(h:yg w b L n r dp)(u:ym w a)(T:10<=b)(p:D L<=400)(hn:n<=D L)(S:Ts.Fit L)(s:d<=4):Uh V 270 #[Ua (I ⟨b,0,U⟩),M J d] w (xI b L r dp a w (Ts.yG L r d 0 n) (M Ug (Ts.yG L r d 0 n).v) (M Ug 0)):=by
 have o:=zd u;go_enter func270,ntmps270;go_wp2;go_loopw[6,10] (λc i wr=>∃(k:Nat) (q:Int),k<=d/\i=M J k/\c=M Ug q/\0<=q/\q<(16:Int) ^ k/\n+k<=D L/\H (yg wr b L (n+k) r dp)/\zg (zr b) w wr/\H (Ts.yG L r d 0 n=Ts.yG L r (d-k) q (n+k)))
  (λ_ i _=>d-(intOf i).toNat)
 exact⟨0,0,FT _,rfl,rfl,oa,ov,oa,h,zg.refl _ _,rfl⟩;obtain⟨k,q,hk,rfl,rfl,aa,am,ak,g,l,m⟩:=hrel;have hp:(16:Int) ^ k<=65536:=zgy k oa;have ae:=Ts.hexV_hi (Ts.zi L (n+k));have ad:=Ts.zfl (Ts.zi L (n+k));have af:=S (n+k);by_cases ai:k<d
 .by_cases s:Ts.hexV (Ts.zi L (n+k))<0
  ·(have j:H (Ts.yG L r d 0 n=Ts.bad 3 (Ts.zA L r (n+k)) (n+k)):=by rw[zb m,show d-k=(d-k-1)+1 by omega];exact Ts.YZ s);have P:Ts.Yn (Ts.zi L (n+k))=Z:=(by unfold Ts.Yn;simp;omega);have o:=zd (o.NS l T);go_wp2_with(first|(go_at_call 146;refine AL (jA b L (n+k) r dp _ g p oa) ?_)|(go_at_call 286;refine AL (wE _ _ oa oa) ?_)|(go_at_call 54;refine(vJ b L (n+k) r dp a _ g o p oa).mono ?_;rintro e wq ⟨v,rfl,hv,t⟩));go_ret2;exact vK j od (l.trans t.none) (g.keep t id (λ_ _ f=>f)) (hv.base l.size)
  (have j:H (Ts.yG L r d 0 n=Ts.yG L r (d-(k+1)) (16*q+Ts.hexV (Ts.zi L (n+k))) (n+(k+1))):=by rw[zb m,show d-k=(d-(k+1))+1 by omega];exact Ts.ZU oa);have ah:n+k<D L:=Ts.QS oa;have P:Ts.Yn (Ts.zi L (n+k))=G:=(by unfold Ts.Yn;simp;omega);have hN:Ts.hexN (Ts.zi L (n+k))=Ts.hexV (Ts.zi L (n+k)):=(by unfold Ts.hexN;rw[iN s]);have X:(16:Int) ^ (k+1)=16*(16:Int) ^ k:=(by rw[Int.pow_succ];omega);have x:16*q+Ts.hexV (Ts.zi L (n+k))<(16:Int) ^ (k+1):=oa;have y:=zd x;have W:=zb g;have⟨z,c1,B,F,f1,N⟩:=W;go_wp2_with(first|(go_at_call 146;refine AL (jA b L (n+k) r dp _ g p oa) ?_)|(go_at_call 286;refine AL (wE _ _ oa oa) ?_));refine⟨⟨k+1,16*q+Ts.hexV (Ts.zi L (n+k)),oa,Ae,?_,oa,y,oa,g.N1 _ _ oa,l.NS _ _,j⟩,Ad⟩;rw[NA _ _ aa oa oa oa]
 (have j:H (Ts.yG L r d 0 n=Ts.good q (n+k)):=by rw[zb m,show d-k=0 by omega];rfl);go_wp2;go_ret2;exact kp j (by rw[zb j];rfl) l (zb g)
namespace Ts
theorem zE (L:Ai)(n:Nat)(c:UInt8)(k:Int)(a:k=(c.toNat:Int)):zD L n { data:=#[c] }=decide (zi L n=k):=by
 subst a;show vu L n { data:=#[c] } 1 0=_;simp only[vu];have:ze { data:=#[c] } 0=(c.toNat:Int):=rfl;rw[this];by_cases h:zi L (n+0)=(c.toNat:Int)
 rw[IN h];simpa using h;rw[iN h];simpa using h
theorem xi (L:Ai)(n:Nat)(c d:UInt8)(k j:Int)(f:k=(c.toNat:Int))(e:j=(d.toNat:Int)):zD L n { data:=#[c,d] }=decide (zi L n=k/\zi L (n+1)=j):=by
 subst f;subst e;show vu L n { data:=#[c,d] } 2 0=_;simp only[vu];have a:ze { data:=#[c,d] } 0=(c.toNat:Int):=rfl;have b:ze { data:=#[c,d] } (0+1)=(d.toNat:Int):=rfl;rw[a,b];by_cases h:zi L (n+0)=(c.toNat:Int)
 grind
 grind
theorem zG {L:Ai}{n:Nat}(h:0<=zi L n):n<D L:=by by_cases a:n<D L;exact a;rw[qi oa] at h;omega
theorem ZF {L:Ai}{r:Int}{f d n:Nat}{c:Int}(h:0<d)(a:zi L n=125):xL L r (f+1) c d n=good c (n+1):=by simp only[xL];rw[IN ⟨h,a⟩]
theorem Y0 {L:Ai}{r:Int}{f d n:Nat}{c:Int}(h:¬(0<d/\zi L n=125))(a:hexV (zi L n)<0\/1114111<16*c+hexV (zi L n)):xL L r (f+1) c d n=bad 3 (zA L r n) n:=by simp only[xL];rw[iN h,IN a]
theorem Yo {L:Ai}{r:Int}{f d n:Nat}{c:Int}(h:¬(0<d/\zi L n=125))(a:¬(hexV (zi L n)<0\/1114111<16*c+hexV (zi L n))):xL L r (f+1) c d n=xL L r f (16*c+hexV (zi L n)) (d+1) (n+1):=by simp only[xL];rw[iN h,iN a]
end Ts
theorem JK (b:Nat)(L:Ai)(n:Nat)(r dp:Int)(a:Nat->Addr)(w:E)(h:yg w b L n r dp)(B:ym w a)(hb:10<=b)(o:D L<=400)(hn:n<=D L)(hF:Ts.Fit L):Uh V 271 #[Ua (I ⟨b,0,U⟩)] w (xI b L r dp a w (Ts.kL L r n) (M Ug (Ts.kL L r n).v) (M Ug 0)):=by
 have s:=zd B;clear B;go_enter func271,ntmps271;go_wp2;go_loopw[4,5] (λc i wr=>∃(d:Nat) (q:Int),i=M J d/\c=M Ug q/\0<=q/\q<=1114111/\n+d<=D L/\H (yg wr b L (n+d) r dp)/\zg (zr b) w wr/\H (Ts.kL L r n=Ts.xL L r (D L+1-(n+d)) q d (n+d)))
  (λ_ i _=>D L-(intOf i).toNat)
 exact⟨0,0,rfl,rfl,oa,oa,oa,h,zg.refl _ _,rfl⟩;obtain⟨d,q,rfl,rfl,N,aq,ap,g,k,u⟩:=hrel;have am:=Ts.hexV_hi (Ts.zi L (n+d));have al:=Ts.zfl (Ts.zi L (n+d));have an:=hF (n+d);by_cases j:0<d/\Ts.zi L (n+d)=125
 ·(have m:H (Ts.kL L r n=Ts.good q (n+d+1)):=by rw[zb u,show (D L)+1-(n+d)=(D L-(n+d))+1 by omega];exact Ts.ZF j.1 j.2);have l:((d:Int) == 0)=Z:=ou;have F:Ts.zD L (n+d) { data:=#[125] }=G:=(by rw[Ts.zE L (n+d) 125 125 rfl];simp[j.2]);clear j;go_wp2_with(go_at_call 101;refine(j4 b L (n+d) r dp _ _ g o oa od ox).mono ?_;rintro e y ⟨rfl,ab,p⟩);go_ret2;exact kp m (by rw[zb m];rfl) (k.trans p) ab
 by_cases t:Ts.hexV (Ts.zi L (n+d))<0\/1114111<16*q+Ts.hexV (Ts.zi L (n+d))
 ·(((have m:H (Ts.kL L r n=Ts.bad 3 (Ts.zA L r (n+d)) (n+d)):=by rw[zb u,show (D L)+1-(n+d)=(D L-(n+d))+1 by omega];exact Ts.Y0 j t);have s:=zd (s.NS k hb);have x:(((d:Int) == 0)=G)\/(((d:Int) == 0)=Z/\Ts.zD L (n+d) { data:=#[125] }=Z):=by by_cases l:d=0;left;simp[l];right;exact⟨by simp;omega,by rw[Ts.zE L (n+d) 125 125 rfl];simp;omega⟩);have ah:(Ts.Yn (Ts.zi L (n+d))=Z)\/(Ts.Yn (Ts.zi L (n+d))=G/\bits BinOp.or IntKind.i32 (q*16) (Ts.hexN (Ts.zi L (n+d)))=16*q+Ts.hexV (Ts.zi L (n+d))/\1114111<16*q+Ts.hexV (Ts.zi L (n+d))):=by by_cases hx:Ts.hexV (Ts.zi L (n+d))<0;left;unfold Ts.Yn;simp;omega;right;refine⟨by unfold Ts.Yn;simp;omega,?_,oa⟩;have:Ts.hexN (Ts.zi L (n+d))=Ts.hexV (Ts.zi L (n+d)):=(by unfold Ts.hexN;rw[iN hx]);rw[this];exact NA _ _ N oa oa oa);clear j t;obtain l|⟨l,F⟩:=x
  all_goals
   obtain z|⟨z,af,ak⟩:=ah
  all_goals
   go_wp2_with(first|(go_at_call 101;refine(Ym b L (n+d) r dp _ _ g o oa od ox).mono ?_;rintro e y ⟨rfl,qq,rfl⟩)|(go_at_call 146;refine AL (jA b L (n+d) r dp _ (by first|exact g|exact g.drewN _) o oa) ?_)|(go_at_call 286;refine AL (wE _ _ oa oa) ?_)|(go_at_call 54;refine(vJ b L (n+d) r dp a _ (by first|exact g|exact g.drewN _) (by first|exact s|exact s.drewN _) o oa).mono ?_;rintro e y ⟨v,rfl,P,p⟩))
  all_goals
   go_ret2
   first
    |exact vK m od (k.trans p.none) (g.keep p id (λ_ _ f=>f)) (P.base k.size)
    |exact vK m od ((k.drewN _).trans p.none) ((g.drewN _).keep p id (λ_ _ f=>f)) (P.base k.size)
 (((have m:H (Ts.kL L r n=Ts.xL L r (D L+1-(n+(d+1))) (16*q+Ts.hexV (Ts.zi L (n+d))) (d+1) (n+(d+1))):=by have ae:n+d<D L:=Ts.QS oa;rw[zb u,show (D L)+1-(n+d)=(D L+1-(n+(d+1)))+1 by omega];exact Ts.Yo j t);have ae:n+d<D L:=Ts.QS oa;have x:(((d:Int) == 0)=G)\/(((d:Int) == 0)=Z/\Ts.zD L (n+d) { data:=#[125] }=Z):=by by_cases l:d=0;left;simp[l];right;exact⟨by simp;omega,by rw[Ts.zE L (n+d) 125 125 rfl];simp;omega⟩);have z:Ts.Yn (Ts.zi L (n+d))=G:=(by unfold Ts.Yn;simp;omega);have af:bits BinOp.or IntKind.i32 (q*16) (Ts.hexN (Ts.zi L (n+d)))=16*q+Ts.hexV (Ts.zi L (n+d)):=by have:Ts.hexN (Ts.zi L (n+d))=Ts.hexV (Ts.zi L (n+d)):=(by unfold Ts.hexN;rw[iN oa]);rw[this];exact NA _ _ N oa oa oa);have ag:16*q+Ts.hexV (Ts.zi L (n+d))<=1114111:=oa;have ad:0<=16*q+Ts.hexV (Ts.zi L (n+d)):=oa;clear j t;have j:=zb g;have⟨S,c1,T,W,f1,X⟩:=j;clear S T W X;obtain l|⟨l,F⟩:=x
 all_goals
  go_wp2_with(first|(go_at_call 101;refine(Ym b L (n+d) r dp _ _ g o oa od ox).mono ?_;rintro e y ⟨rfl,qq,rfl⟩)|(go_at_call 146;refine AL (jA b L (n+d) r dp _ (by first|exact g|exact g.drewN _) o oa) ?_)|(go_at_call 286;refine AL (wE _ _ oa oa) ?_))
 all_goals
  exact⟨⟨d+1,16*q+Ts.hexV (Ts.zi L (n+d)),Ae,rfl,ad,ag,oa,(by first|exact g.N1 _ _ oa|exact(g.drewN _).N1 _ _ oa),(by first|exact k.NS _ _|exact(k.drewN _).NS _ _),m⟩,Ad⟩
namespace Ts
theorem zaZ (L:Ai)(r:Int):∀(f:Nat) (c:Int) (n:Nat),0<=c->c<(16:Int) ^ (4-f)->f<=4->0<=(yG L r f c n).v/\(yG L r f c n).v<=65535
 |0,c,n,b,a,_=>by simp only[yG,good];simp at a;omega
 |f+1,c,n,b,a,e=>by
  have h:(16:Int) ^ (4-f)=16*(16:Int) ^ (4-(f+1)):=by rw[show 4-f=(4-(f+1))+1 by omega,Int.pow_succ];omega
  have g:=hexV_hi (zi L n);by_cases d:hexV (zi L n)<0;rw[YZ d];simp only[bad];omega;rw[ZU oa];exact zaZ L r f _ (n+1) oa oa oa
theorem Y5 (L:Ai)(r:Int):∀(f:Nat) (c:Int) (n:Nat),n<=D L->n<=(yG L r f c n).n/\(yG L r f c n).n<=D L/\((yG L r f c n).k=0->(yG L r f c n).n=n+f)
 |0,c,n,h=>by simp only[yG,good];omega
 |f+1,c,n,h=>by
  by_cases a:hexV (zi L n)<0;rw[YZ a];simp only[bad];omega;rw[ZU oa];have b:n<D L:=QS oa;have:=Y5 L r f (16*c+hexV (zi L n)) (n+1) oa;omega
theorem lowV_bd {L:Ai}{r:Int}{n:Nat}(h:0<=kE L r n):56320<=kE L r n/\kE L r n<=57343:=by unfold kE at h ⊢;split at h;rename_i a;rw[IN a];omega;omega
end Ts
theorem Y6 (b:Nat)(L:Ai)(n:Nat)(r dp:Int)(a:Nat->Addr)(w:E)(h:yg w b L n r dp)(T:ym w a)(m:10<=b)(j:D L<=400)(hn:n<=D L)(F:Ts.Fit L):Uh V 287 #[Ua (I ⟨b,0,U⟩)] w λx u=>zg (zr b) w u/\((0<=Ts.kE L r n/\x=R (Ue #[M Ug (Ts.kE L r n),C G])/\yg u b L (n+6) r dp)\/(Ts.kE L r n = -1/\x=R (Ue #[M Ug 0,C Z])/\yg u b L n r dp)):=by
 have p:=zd h;have f:=zd T;have⟨X,c1,c2,c3,f1,f3⟩:=h;cases hm:Ts.zD L n { data:=#[92,117] }
 .have i:H (Ts.kE L r n = -1):=by rw[Ts.xi L n 92 117 92 117 rfl rfl] at hm;simp only[decide_eq_false_iff_not] at hm;unfold Ts.kE;rw[iN (λl=>hm ⟨l.1,l.2.1⟩)];rfl
  go_enter func287,ntmps287;go_wp2_with(go_at_call 101;refine(Ym b L (n) r dp _ _ p j oa od ox).mono ?_;rintro e wq ⟨rfl,qq,rfl⟩);go_ret2;exact⟨Ah.NS _ _,O ⟨i,rfl,(p.drewN _).N1 _ _ rfl⟩⟩
 have z:Ts.zi L n=92/\Ts.zi L (n+1)=117:=by rw[Ts.xi L n 92 117 92 117 rfl rfl] at hm;simpa using hm
 have ak:n+1<D L:=Ts.zG oa;have al:=Ts.zaZ L r 4 0 (n+2) oa od oa;have ae:=Ts.Y5 L r 4 0 (n+2) oa;by_cases o:(Ts.yG L r 4 0 (n+2)).k=0
 .by_cases y:56320<=(Ts.yG L r 4 0 (n+2)).v/\(Ts.yG L r 4 0 (n+2)).v<=57343
  ·(have i:H (Ts.kE L r n=(Ts.yG L r 4 0 (n+2)).v):=by unfold Ts.kE;rw[IN ⟨z.1,z.2,o,y.1,y.2⟩];rfl);have⟨ah,ai⟩:=y;go_enter func287,ntmps287;go_wp2_with(first|(go_at_call 101;refine(j4 b L (n) r dp _ _ p j oa od ox).mono ?_;rintro e B ⟨rfl,d,g⟩;have d:yg B b L ((n)+2) r dp:=d;have q:=zd d);(have f:=zd (f.NS g m))|(go_at_call 270;refine(xO b L (n+2) r dp a 4 _ q f m j oa F oa).mono ?_;rintro e W ⟨s,c,t⟩;obtain rfl:=qt t o;have N:=zd c;have P:=c.c1;have S:=c.f1));go_ret2;exact⟨g.trans s,Q ⟨by rw[zb i];omega,by rw[zb i];rfl,by have:=ae.2.2 o;rw[this] at c;exact c⟩⟩
  (have i:H (Ts.kE L r n = -1):=by unfold Ts.kE;rw[iN (λl=>y ⟨l.2.2.2.1,l.2.2.2.2⟩)];rfl);go_enter func287,ntmps287;go_wp2_with(first|(go_at_call 101;refine(j4 b L (n) r dp _ _ p j oa od ox).mono ?_;rintro e B ⟨rfl,d,g⟩;have d:yg B b L ((n)+2) r dp:=d;have q:=zd d);(have f:=zd (f.NS g m))|(go_at_call 270;refine(xO b L (n+2) r dp a 4 _ q f m j oa F oa).mono ?_;rintro e W ⟨s,c,t⟩;obtain rfl:=qt t o;have N:=zd c;have P:=c.c1;have S:=c.f1))
  all_goals first
   |(exfalso;exact y ⟨oa,oa⟩)
   |(go_ret2;exact⟨(g.trans s).NS _ _,O ⟨i,rfl,c.N1 _ _ rfl⟩⟩)
 (have i:H (Ts.kE L r n = -1):=by unfold Ts.kE;rw[iN (λl=>o l.2.2.1)];rfl);go_enter func287,ntmps287;go_wp2_with(first|(go_at_call 101;refine(j4 b L (n) r dp _ _ p j oa od ox).mono ?_;rintro e B ⟨rfl,d,g⟩;have d:yg B b L ((n)+2) r dp:=d;have q:=zd d);(have f:=zd (f.NS g m))|(go_at_call 270;refine(xO b L (n+2) r dp a 4 _ q f m j oa F oa).mono ?_;rintro e W ⟨s,c,t⟩;obtain⟨v2,rfl,af⟩:=XK t o;have⟨g2,ad⟩:=af.form;subst ad;have N:=zd c;have P:=c.c1;have S:=c.f1));go_ret2;exact⟨(g.trans s).NS _ _,O ⟨i,rfl,c.N1 _ _ rfl⟩⟩
theorem zee {v:Int}{x y z:Ending}{A B:Prop}(h:(0<=v/\x=y/\A)\/(v = -1/\x=z/\B))(a:0<=v):x=y/\A:=by grind
theorem zgz {v:Int}{x y z:Ending}{A B:Prop}(h:(0<=v/\x=y/\A)\/(v = -1/\x=z/\B))(a:¬0<=v):x=z/\B:=by grind
theorem QT (b:Nat)(L:Ai)(n:Nat)(r dp:Int)(a:Nat->Addr)(w:E)(h:yg w b L n r dp)(N:ym w a)(j:10<=b)(o:D L<=400)(hn:n<=D L)(m:Ts.Fit L):Uh V 272 #[Ua (I ⟨b,0,U⟩)] w (xI b L r dp a w (Ts.yi L r n) (M Ug (Ts.yi L r n).v) (M Ug 0)):=by
 have s:=zd h;have d:=zd N;have ae:=Ts.zaZ L r 4 0 n oa od oa;have P:=Ts.Y5 L r 4 0 n oa;by_cases g:(Ts.yG L r 4 0 n).k=0
 .by_cases W:(Ts.yG L r 4 0 n).v<55296\/56319<(Ts.yG L r 4 0 n).v
  .have i:H (Ts.yi L r n=Ts.yG L r 4 0 n):=(by unfold Ts.yi;rw[IN (O W)];rfl);go_enter func272,ntmps272;go_wp2_with(first|(go_at_call 270;refine(xO b L n r dp a 4 _ s d j o oa m oa).mono ?_;rintro e F ⟨f,c,l⟩;obtain rfl:=qt l g;have p:=zd c;have t:=c.c1;have u:=c.f1))
   all_goals first
    |(exfalso;omega)
    |(go_ret2;rw[zb i];exact⟨f,c,Q ⟨g,rfl⟩⟩)
  have q:=P.2.2 g;have ac:n+4<=D L:=oa;by_cases B:0<=Ts.kE L r (n+4)
  ·(have i:H (Ts.yi L r n=Ts.good (65536+((Ts.yG L r 4 0 n).v-55296)*1024+(Ts.kE L r (n+4)-56320)) (n+4+6)):=by unfold Ts.yi;rw[iN oa,q,IN B];rfl);have ab:=Ts.lowV_bd B;go_enter func272,ntmps272;go_wp2_with(first|(go_at_call 270;refine(xO b L n r dp a 4 _ s d j o oa m oa).mono ?_;rintro e F ⟨f,c,l⟩;obtain rfl:=qt l g;have p:=zd c;have t:=c.c1;have u:=c.f1);(have d:=zd (d.NS f j))|(go_at_call 287;refine(Y6 b L (n+4) r dp a _ (by have:=zb p;rw[q] at this;exact this) d j o oa m).mono ?_;rintro e X ⟨x,z⟩;obtain⟨rfl,y⟩:=zee z oa))
   all_goals first
    |(exfalso;omega)
    |(go_ret2;exact kp i (by rw[zb i];rfl) (f.trans x) y)
  have i:H (Ts.yi L r n=Ts.yG L r 4 0 n):=(by unfold Ts.yi;rw[iN oa,q,iN B];rfl);go_enter func272,ntmps272;go_wp2_with(first|(go_at_call 270;refine(xO b L n r dp a 4 _ s d j o oa m oa).mono ?_;rintro e F ⟨f,c,l⟩;obtain rfl:=qt l g;have p:=zd c;have t:=c.c1;have u:=c.f1);(have d:=zd (d.NS f j))|(go_at_call 287;refine(Y6 b L (n+4) r dp a _ (by have:=zb p;rw[q] at this;exact this) d j o oa m).mono ?_;rintro e X ⟨x,z⟩;obtain⟨rfl,y⟩:=zgz z oa))
  all_goals first
   |(exfalso;omega)
   |(go_ret2;rw[zb i];exact⟨f.trans x,(by rw[q];exact y),Q ⟨g,rfl⟩⟩)
 have i:H (Ts.yi L r n=Ts.yG L r 4 0 n):=by unfold Ts.yi;rw[IN (Q g)];rfl
 go_enter func272,ntmps272;go_wp2_with(first|(go_at_call 270;refine(xO b L n r dp a 4 _ s d j o oa m oa).mono ?_;rintro e F ⟨f,c,l⟩;obtain⟨v2,rfl,S⟩:=XK l g;have⟨g2,T⟩:=S.form;subst T;have p:=zd c;have t:=c.c1;have u:=c.f1))
 all_goals
  go_ret2;rw[zb i];exact⟨f,c,O ⟨g,_,rfl,S⟩⟩
theorem Qk (s:Al)(c:Int)(w:E):Uh V 282 #[Uc s,M .u8 c] w λe u=>e=R (M J (firstIdx s c.toNat.toUInt8))/\u=w:=by rw[Lib.firstIdx_eq];go_enter func282,ntmps282;go_wp2;rw[run_callFunc_extern func292 om om om (e:=Extern.BytealgIndexByte.indexByte) om,Lib.run_indexByteString];simp only[Result.andThen];rw[Oper.upon_value];go_wp2;go_ret;exact⟨rfl,rfl⟩
theorem Vo (s:Al)(r:Int)(w:E)(a:r<0):Uh V 266 #[Uc s,M Ug r] w λe u=>e=R (M J (-1))/\u=w:=by go_enter func266,ntmps266;go_wp2;go_ret;exact⟨rfl,rfl⟩
theorem KG (s:Al)(r:Int)(w:E)(a:0<=r)(b:r<128):Uh V 266 #[Uc s,M Ug r] w λe u=>e=R (M J (firstIdx s r.toNat.toUInt8))/\u=w:=by go_enter func266,ntmps266;go_wp2_with(go_at_call 282;refine AL (Qk _ _ _) ?_);go_ret;exact⟨rfl,rfl⟩
theorem Vp (s:Al)(r:Int)(w:E)(o:128<=r)(y:r<=1114111)(z:r≠65533)(f:∀b∈s.data.toList,b.toNat<128)(_p:A s<=20):Uh V 266 #[Uc s,M Ug r] w λe u=>e=R (M J (-1))/\zke w u:=by
 by_cases h:(0<=r/\r<55296)\/(57343<r/\r<=1114111)
 .have k:Utf8.valid r=G:=by rw[validRune_eq];unfold validRune;exact decide_eq_true h
  have⟨q,t,l⟩:=encode_facts r k o;have l:128<=ze (Utf8.encode r) ((Utf8.encode r).size-1):=by have m:(Utf8.encode r).size-1<(Utf8.encode r).size:=oa;rw[yY _ _ m];have:=l m;omega
  have v:=xk (Utf8.encode r) ((Utf8.encode r).size-1);generalize B:Utf8.encode r=c at *;have S:∀d,(Instr.index 9 (Uc c) (M J ((c.size:Int)-1))).run V d=.ok (M .u8 (ze c (c.size-1))) d:=λd=>ZT c _ oa _ oa d;by_cases g:c.size-1<A s
  ·(have P:∀d,(Instr.index 9 (Uc s) (M J ((c.size:Int)-1))).run V d=.ok (M .u8 (ze s (c.size-1))) d:=λd=>ZT s _ g _ oa d;have x:ze s (c.size-1)<128:=by rw[yY s _ g];have:=f (s[c.size-1]) (Array.getElem_mem_toList (xs:=s.data) g);omega);have L:(ze s (c.size-1) != ze c (c.size-1))=G:=ou;have F:∀a e,firstIdx (s.extract a e) (ze c (c.size-1)).toNat.toUInt8 = -1:=λa e=>firstIdx_ascii s a e _ f ou;have N:IntKind.i64.wrap ((c.size:Int)-1+1)=(c.size:Int):=(by rw[wrap_small _ oa oa];omega);have n:=zd f;go_enter func266,ntmps266;obtain⟨i,j⟩|⟨i,j⟩:=h
   all_goals
    go_wp2_with go_in
    go_step3
    go_wp2;refine wp_loop_rounds 1 ?_;rw[rounds_succ];go_wp2
    go_step3
    go_wp2;go_quiet(fail);go_wp2;go_quiet((go_at_call 282;exact(Qk _ _ _).mono (by rintro e T ⟨rfl,rfl⟩;exact⟨rfl,_,rfl⟩)));go_wp2;rw[Exit.noGoto_ret];go_wp2;rw[Exit.noGoto_ret];go_wp2;go_ret;exact⟨rfl,Ah⟩
  have n:=zd f;go_enter func266,ntmps266;obtain⟨i,j⟩|⟨i,j⟩:=h
  all_goals
   go_wp2_with go_in
   go_step3
   go_wp2;refine wp_loop_rounds 1 ?_;rw[rounds_succ];go_wp2;rw[Exit.noGoto_ret];go_wp2;go_ret;exact⟨rfl,zg.refl _ _⟩
 go_enter func266,ntmps266;go_wp2
 all_goals first
  |(exfalso;omega)
  |(go_ret;exact⟨rfl,zg.refl _ _⟩)
theorem KH (s:Al)(w:E)(d:∀b∈s.data.toList,b.toNat<128)(_i:A s<=20):Uh V 266 #[Uc s,M Ug 65533] w λe u=>e=R (M J (-1))/\zke w u:=by
 go_enter func266,ntmps266;go_wp2;go_loopw[4] (λ_ wr=>∃pos:Nat,wr=w.iter s pos) (λ_ wr=>A s-wr.iterPos (T (N w)));exact⟨0,rfl⟩;obtain⟨pos,rfl⟩:=hrel;by_cases c:pos<A s
 .have g:(s[pos]'c).toNat<128:=d _ (Array.getElem_mem_toList (xs:=s.data) c);have h:∀a,(Instr.next (Ua (I ⟨T (N w),0,U⟩)) G a).run V (w.iter s pos)=_:=λa=>run_next_ascii w s pos a c g;have j:(((s[pos]'c).toNat:Int) == 65533)=Z:=ou;have f:=zd d;go_wp2;go_roundw;exact⟨pos+1,rfl⟩;simp;omega
 have h:∀a,(Instr.next (Ua (I ⟨T (N w),0,U⟩)) G a).run V (w.iter s pos)=_:=λa=>run_next_end w s pos a c;have f:=zd d;go_wp2;go_ret;exact⟨rfl,Ag⟩
def Ts.O7 (s:Al)(r:Int):Bool:=s.data.toList.any λb=>decide ((b.toNat:Int)=r)
theorem GC (s:Al)(r:Int)(a:0<=r)(c:r<128):decide (0<=firstIdx s r.toNat.toUInt8)=Ts.O7 s r:=by
 rw[firstIdx_nonneg];unfold Ts.O7;congr 1;funext b;have d:=b.toNat_lt;by_cases h:(b.toNat:Int)=r
 .have e:b=r.toNat.toUInt8:=by apply UInt8.toNat_inj.1;rw[<-h];simp
  rw[beq_iff_eq.2 e,decide_eq_true h]
 rw[decide_eq_false h,beq_eq_false_iff_ne];intro e;apply h;rw[e];simp;omega
theorem Vq (s:Al)(r:Int)(c:∀b∈s.data.toList,b.toNat<128)(h:r<0\/128<=r):Ts.O7 s r=Z:=by unfold Ts.O7;rw[List.any_eq_false];intro b a;have:=c b a;simp;omega
theorem Wz (s:Al)(r:Int)(w:E)(j:r<=1114111)(a:∀b∈s.data.toList,b.toNat<128)(i:A s<=20):Uh V 266 #[Uc s,M Ug r] w λe u=>(∃k,e=R (M J k)/\decide (0<=k)=Ts.O7 s r)/\zke w u:=by by_cases f:r<0;exact(Vo s r w f).mono (by rintro e d ⟨rfl,rfl⟩;exact⟨⟨_,rfl,(Vq s r a (Q f)).symm⟩,zg.refl _ _⟩);by_cases g:r<128;exact(KG s r w oa g).mono (by rintro e d ⟨rfl,rfl⟩;exact⟨⟨_,rfl,GC s r oa g⟩,zg.refl _ _⟩);by_cases h:r=65533;subst h;exact(KH s w a i).mono (by rintro e d ⟨rfl,c⟩;exact⟨⟨_,rfl,(Vq s _ a (O oa)).symm⟩,c⟩);exact(Vp s r w oa j h a i).mono (by rintro e d ⟨rfl,c⟩;exact⟨⟨_,rfl,(Vq s _ a (O oa)).symm⟩,c⟩)
theorem QU (s:Al)(r:Int)(w:E)(d:r<=1114111)(a:∀b∈s.data.toList,b.toNat<128)(h:A s<=20):Uh V 243 #[Uc s,M Ug r] w λe u=>e=R (C (Ts.O7 s r))/\zke w u:=by have c:=zd a;go_enter func243,ntmps243;go_wp2_with(go_at_call 266;refine(Wz s r _ d c h).mono ?_;rintro e i ⟨⟨k,rfl,g⟩,f⟩);go_ret;exact⟨by rw[<-g];rfl,f⟩
theorem ED (r:Int):Ts.O7 { data:=#[94,36,92,46,42,43,63,40,41,91,93,123,125,124,47] } r=Ts.sign r:=rfl
theorem YL (c:Int)(w:E)(f:c<=1114111):Uh V 267 #[M Ug c] w λx u=>x=R (Ue #[M Ug (Ts.vR c),C (Ts.kM c)])/\zke w u:=by
 by_cases a:0<=Ts.ctlV c
 .have b:H (Ts.vR c=Ts.ctlV c/\Ts.kM c=G):=⟨by unfold Ts.vR;rw[IN a],by unfold Ts.kM;simp[a]⟩
  have d:c=116\/c=110\/c=118\/c=102\/c=114:=by unfold Ts.ctlV at a;(repeat' split at a)<;>omega
  obtain rfl|rfl|rfl|rfl|rfl:=d
  all_goals
   go_enter func267,ntmps267;go_wp2;go_ret2;rw[b.out.1,b.out.2];exact⟨rfl,zg.refl _ _⟩
 have b:H (Ts.vR c=c/\Ts.kM c=Ts.sign c):=⟨by unfold Ts.vR;rw[iN a],by unfold Ts.kM;simp[a]⟩
 have d:(c == 116)=Z/\(c == 110)=Z/\(c == 118)=Z/\(c == 102)=Z/\(c == 114)=Z:=by
  unfold Ts.ctlV at a
  (repeat' split at a)<;>simp<;>omega
 have⟨h,i,j,k,l⟩:=d;go_enter func267,ntmps267;go_wp2_with(go_at_call 243;refine(QU _ _ _ f od od).mono ?_;rintro e m ⟨rfl,g⟩);go_ret2;rw[b.out.1,b.out.2,<-ED];exact⟨rfl,g⟩
theorem xI.trans {b:Nat}{L:Ai}{r dp:Int}{a:Nat->Addr}{w w1 u:E}{o:Ts.Out}{yes no:Y}{x:Ending}(d:zg (zr b) w w1)(h:xI b L r dp a w1 o yes no x u):xI b L r dp a w o yes no x u:=by have⟨e,f,c⟩:=h;refine⟨d.trans e,f,?_⟩;obtain c|⟨g,v,j,i⟩:=c;exact Q c;exact O ⟨g,v,j,i.base d.size⟩
theorem xI.yes {b:Nat}{L:Ai}{r dp:Int}{a:Nat->Addr}{w u:E}{o:Ts.Out}{yes no:Y}(e:o.k=0)(c:zg (zr b) w u)(d:yg u b L o.n r dp):xI b L r dp a w o yes no (R (Ue #[yes,Ui])) u:=⟨c,d,Q ⟨e,rfl⟩⟩
theorem xI.no {b:Nat}{L:Ai}{r dp:Int}{a:Nat->Addr}{w u:E}{o:Ts.Out}{yes no v:Y}(e:o.k≠0)(c:zg (zr b) w u)(d:yg u b L o.n r dp)(f:zJ u (T (N w)) v (z7 a o.k) o.p):xI b L r dp a w o yes no (R (Ue #[no,v])) u:=⟨c,d,O ⟨e,v,rfl,f⟩⟩
theorem zef (b:Nat)(L:Ai)(n:Nat)(r dp:Int)(a:Nat->Addr)(w:E)(h:yg w b L n r dp)(j:ym w a)(_o:10<=b)(i:D L<=400)(k:n<=D L)(_m:Ts.Fit L):Uh V 268 #[Ua (I ⟨b,0,U⟩)] w (xI b L r dp a w (Ts.wt L r n) (M Ug (Ts.wt L r n).v) (M Ug 0)):=by
 refine(CY b L n r dp a w h j i k).mono ?_;rintro e p ⟨d,⟨g,rfl⟩|⟨g,v,rfl,l⟩⟩
 .have c:Ts.wt L r n=Ts.good 0 n:=by unfold Ts.wt Ts.dig;rw[g];rfl
  exact kp c (by rw[c];rfl) d.none (h.keep d id (λ_ _ f=>f))
 have c:Ts.wt L r n=Ts.bad 3 (Ts.zA L r n) n:=by unfold Ts.wt Ts.dig;rw[g];rfl
 exact vK c od d.none (h.keep d id (λ_ _ f=>f)) l
theorem xI.form {b:Nat}{L:Ai}{r dp:Int}{a:Nat->Addr}{w u:E}{o:Ts.Out}{yes no:Y}{x:Ending}(h:xI b L r dp a w o yes no x u):∃y v,x=R (Ue #[y,v]):=by obtain⟨_,e⟩|⟨_,v,e,_⟩:=h.2.2<;>exact⟨_,_,e⟩
namespace Ts
theorem chain5 (a b c d e:Bool):a=G\/(a=Z/\b=G)\/(a=Z/\b=Z/\c=G)\/(a=Z/\b=Z/\c=Z/\d=G)\/(a=Z/\b=Z/\c=Z/\d=Z/\e=G)\/(a=Z/\b=Z/\c=Z/\d=Z/\e=Z):=by grind
theorem FZ (L:Ai)(r:Int)(n:Nat):(wt L r n).n=n:=by unfold wt;split<;>rfl
end Ts
theorem Zr (b:Nat)(L:Ai)(n:Nat)(r dp:Int)(a:Nat->Addr)(w:E)(h:yg w b L n r dp)(hS:ym w a)(q:10<=b)(o:D L<=400)(hn:n<=D L)(x:Ts.Fit L):Uh V 244 #[Ua (I ⟨b,0,U⟩)] w (xI b L r dp a w (Ts.vS L r n) (M Ug (Ts.vS L r n).v) (M Ug 0)):=by
 have g:=zd h;have j:=zd hS;clear h hS;have ak:=x n;cases hsh:Ts.kM (Ts.zi L n) with
 |true=>
  have B:H (Ts.vS L r n=Ts.good (Ts.vR (Ts.zi L n)) (n+1)):=by unfold Ts.vS;rw[IN hsh];rfl
  have s:n<D L:=by by_cases s:n<D L;exact s;rw[Ts.qi oa] at hsh;exact absurd hsh od
  go_enter func244,ntmps244;go_wp2_with(first|(go_at_call 146;refine AL (jA b L (n) r dp _ g o oa) ?_)|(go_at_call 267;refine(YL _ _ oa).mono ?_;rintro e w1 ⟨rfl,p⟩;have g:=zd (g.keep p id (λ_ _ f=>f));have j:=zd (j.keep p (λ_ _ f=>f));have c1:=g.c1;have f1:=g.f1));go_ret2;exact kp B (by rw[zb B];rfl) (p.none.NS _ _) (g.N1 _ _ oa)
 |false=>
  have B:H (Ts.vS L r n=if Ts.zD L n { data:=#[48] }=G then Ts.wt L r (n+1) else if Ts.zD L n { data:=#[99] }=G then Ts.xQ L r (n+1) else if Ts.zD L n { data:=#[120] }=G then Ts.yG L r 2 0 (n+1) else if Ts.zD L n { data:=#[117,123] }=G then Ts.kL L r (n+2) else if Ts.zD L n { data:=#[117] }=G then Ts.yi L r (n+1) else Ts.bad 3 (Ts.zA L r n) n):=by show _=_;rw[Ts.zE L n 48 48 rfl,Ts.zE L n 99 99 rfl,Ts.zE L n 120 120 rfl,Ts.xi L n 117 123 117 123 rfl rfl,Ts.zE L n 117 117 rfl];unfold Ts.vS;rw[hsh];simp only[decide_eq_true_eq,Bool.false_eq_true,if_false]
  have F:∀(c:UInt8) (k:Int),k=(c.toNat:Int)->Ts.zD L n { data:=#[c] }=G->n<D L:=λc k hk e=>Ts.zG (by rw[Ts.zE L n c k hk] at e;simp at e;omega);have l2:Ts.zD L n { data:=#[117,123] }=G->n+1<D L:=λe=>Ts.zG (by rw[Ts.xi L n 117 123 117 123 rfl rfl] at e;simp at e;omega);have L0:=F 48 48 rfl;have X:=F 99 99 rfl;have L2:=F 120 120 rfl;have L4:=F 117 117 rfl;clear F;rcases Ts.chain5 (Ts.zD L n { data:=#[48] }) (Ts.zD L n { data:=#[99] }) (Ts.zD L n { data:=#[120] }) (Ts.zD L n { data:=#[117,123] }) (Ts.zD L n { data:=#[117] }) with z|⟨z,N⟩|⟨z,N,P⟩|⟨z,N,P,T⟩|⟨z,N,P,T,m4⟩|⟨z,N,P,T,m4⟩
  all_goals
   first|have s:=L0 z|have s:=X N|have s:=L2 P|have s:=l2 T|have s:=L4 m4|skip
   clear L0 X L2 L4 l2;simp only[*,if_true,if_false,Bool.false_eq_true] at B;go_enter func244,ntmps244;go_wp2_with(first|(go_at_call 146;refine AL (jA b L (n) r dp _ g o oa) ?_)|(go_at_call 267;refine(YL _ _ oa).mono ?_;rintro e w1 ⟨rfl,p⟩;have g:=zd (g.keep p id (λ_ _ f=>f));have j:=zd (j.keep p (λ_ _ f=>f));have c1:=g.c1;have f1:=g.f1)|(go_at_call 101;refine(Ym b L (n) r dp _ _ (by first|exact g|exact g.drewN _) o oa od ox).mono ?_;rintro e wq ⟨rfl,qq,rfl⟩)|(go_at_call 101;refine(j4 b L (n) r dp _ _ (by first|exact g|exact g.drewN _) o oa od ox).mono ?_;rintro e W ⟨rfl,l,i⟩;have l:yg W b L ((n)+1) r dp:=l;have m:=zd l);(have j:=zd (j.NS (by first|exact i|exact Ah.trans i) q))|(go_at_call 101;refine(j4 b L (n) r dp _ _ (g.drewN _) o oa od ox).mono ?_;rintro e W ⟨rfl,l,i⟩;have l:yg W b L ((n)+2) r dp:=l;have m:=zd l);(have j:=zd (j.NS (by first|exact i|exact Ah.trans i) q))|(go_at_call 268;refine(zef b L (n+1) r dp a _ m j q o oa x).mono ?_;intro e S d;obtain⟨y,v,rfl⟩:=d.form;have u:=zd d;have t:=zd i;clear d i m l)|(go_at_call 269;refine(zaY b L (n+1) r dp a _ m j q o oa x).mono ?_;intro e S d;obtain⟨y,v,rfl⟩:=d.form;have u:=zd d;have t:=zd i;clear d i m l)|(go_at_call 270;refine(xO b L (n+1) r dp a 2 _ m j q o oa x oa).mono ?_;intro e S d;obtain⟨y,v,rfl⟩:=d.form;have u:=zd d;have t:=zd i;clear d i m l)|(go_at_call 271;refine(JK b L (n+2) r dp a _ m j q o oa x).mono ?_;intro e S d;obtain⟨y,v,rfl⟩:=d.form;have u:=zd d;have t:=zd i;clear d i m l)|(go_at_call 272;refine(QT b L (n+1) r dp a _ m j q o oa x).mono ?_;intro e S d;obtain⟨y,v,rfl⟩:=d.form;have u:=zd d;have t:=zd i;clear d i m l)|(go_at_call 54;refine(vJ b L (n) r dp a _ (g.drewN _) (j.drewN _) o oa).mono ?_;rintro e wq ⟨v,rfl,hv,ac⟩));go_ret2;rw[zb B]
   first|first|exact xI.trans (p.none.trans t) u|exact xI.trans ((p.none.drewN _).trans t) u|exact vK rfl od ((p.none.drewN _).trans ac.none) ((g.drewN _).keep ac id (λ_ _ f=>f)) (hv.base p.size)
def Own (b base:Nat)(k:Nat):Prop:=k=b\/base<=k
theorem Own.of {b base:Nat}{w u:E}(k:zg (zr b) w u):zg (Own b base) w u:=k.mono (λ_ _ h=>Q h)
theorem Own.to {b:Nat}{w u:E}(k:zg (Own b (T (N w))) w u):zg (zr b) w u:=k.mono (λj a h=>by obtain h|h:=h;exact h;omega)
structure Tu (base:Nat)(w0:E)(b:Nat)(L:Ai)(n:Nat)(len dp:Int)(a:Nat->Addr)(w:E):Prop where
 rd:yg w b L n len dp
 se:ym w a
 on:zg (Own b base) w0 w
 hb:10<=b
 lt:b<base
 le:base<=T (N w0)
section
variable {base:Nat} {w0:World} {b:Nat} {L:Ai} {n:Nat} {r dp:Int} {a:Nat->Addr} {w u:World}
theorem Tu.start (h:yg w b L n r dp)(c:ym w a)(d:10<=b):Tu (T (N w)) w b L n r dp a w:=⟨h,c,zg.refl _ _,d,h.lt,AD _⟩
theorem Tu.drewN (t:Tu base w0 b L n r dp a w)(q:Nat):Tu base w0 b L n r dp a (w.drewN q):=⟨t.rd.drewN q,t.se.drewN q,t.on.drewN q,t.hb,t.lt,t.le⟩
theorem Tu.N1 (t:Tu base w0 b L n r dp a w)(m:Nat)(j:Int)(c:j=(m:Int)):Tu base w0 b L m r dp a (w.setCell ⟨b,1,U⟩ (M J j)):=⟨t.rd.N1 m j c,t.se.NS ((zg.refl _ _).NS _ _) t.hb,t.on.trans (Own.of ((zg.refl _ _).NS _ _)),t.hb,t.lt,t.le⟩
theorem Tu.calm (t:Tu base w0 b L n r dp a w)(k:zke w u):Tu base w0 b L n r dp a u:=⟨t.rd.keep k id (λ_ _ f=>f),t.se.keep k (λ_ _ f=>f),t.on.trans k.none,t.hb,t.lt,t.le⟩
theorem Tu.NS {m:Nat}(t:Tu base w0 b L n r dp a w)(k:zg (zr b) w u)(h:yg u b L m r dp):Tu base w0 b L m r dp a u:=⟨h,t.se.NS k t.hb,t.on.trans (Own.of k),t.hb,t.lt,t.le⟩
theorem Tu.c1 (t:Tu base w0 b L n r dp a w):l w ⟨b,1,U⟩=I (M J n):=t.rd.c1
theorem Tu.f1 (t:Tu base w0 b L n r dp a w):dz w ⟨b,1,U⟩=Z:=t.rd.f1
theorem Tu.good {o:Ts.Out}{yes c no:Y}{v:Int}(t:Tu (T (N w0)) w0 b L n r dp a w)(d:o=Ts.good v n)(e:c=yes):xI b L r dp a w0 o yes no (R (Ue #[c,Ui])) w:=kp d e (Own.to t.on) t.rd
theorem Tu.bad {o:Ts.Out}{yes no v:Y}{k:Nat}{p:Int}(t:Tu (T (N w0)) w0 b L n r dp a w)(e:o=Ts.bad k p n)(d:k≠0)(c:zJ w (T (N w0)) v (z7 a k) p):xI b L r dp a w0 o yes no (R (Ue #[no,v])) w:=vK e d (Own.to t.on) t.rd c
theorem Tu.yes {o:Ts.Out}{yes no:Y}(t:Tu (T (N w0)) w0 b L o.n r dp a w)(c:o.k=0):xI b L r dp a w0 o yes no (R (Ue #[yes,Ui])) w:=xI.yes c (Own.to t.on) t.rd
theorem Tu.no {o:Ts.Out}{yes no v:Y}(t:Tu (T (N w0)) w0 b L o.n r dp a w)(c:o.k≠0)(d:zJ w (T (N w0)) v (z7 a o.k) o.p):xI b L r dp a w0 o yes no (R (Ue #[no,v])) w:=xI.no c (Own.to t.on) t.rd d
theorem xd (t:Tu base w0 b L n r dp a w)(c:D L<=400)(d:n<=1000):Uh V 146 #[Ua (I ⟨b,0,U⟩)] w λx u=>x=R (M Ug (Ts.zi L n))/\u=w:=jA b L n r dp w t.rd c d
theorem KR (k:Nat)(t:Tu base w0 b L n r dp a w)(c:D L<=400)(e:n<=1000)(d:k<=1000):Uh V 148 #[Ua (I ⟨b,0,U⟩),M J k] w λx u=>x=R (M Ug (Ts.zi L (n+k)))/\u=w:=XJ b L n r dp k w t.rd c e d
theorem qu (t:Tu base w0 b L n r dp a w)(c:D L<=400)(d:n<=D L):Uh V 102 #[Ua (I ⟨b,0,U⟩)] w λx u=>x=R (M J (Ts.zA L r n))/\∃q,u=w.drewN q:=WW b L n r dp w t.rd c d
theorem XL (t:Tu base w0 b L n r dp a w):Uh V 53 #[Ua (I ⟨b,0,U⟩)] w λx u=>x=R (C ((n:Int) == (D L:Int)))/\∃q,u=w.drewN q:=vw b L n r dp w t.rd
theorem xJ (word:Al)(t:Tu base w0 b L n r dp a w)(c:D L<=400)(e:n<=1000)(f:word.size<=10)(d:Ts.zD L n word=Z):Uh V 101 #[Ua (I ⟨b,0,U⟩),Uc word] w λx u=>x=R (C Z)/\∃q,u=w.drewN q:=Ym b L n r dp word w t.rd c e f d
theorem vT (word:Al)(t:Tu base w0 b L n r dp a w)(f:D L<=400)(h:n<=1000)(i:word.size<=10)(g:Ts.zD L n word=G):Uh V 101 #[Ua (I ⟨b,0,U⟩),Uc word] w λx u=>x=R (C G)/\Tu base w0 b L (n+word.size) r dp a u:=
 (j4 b L n r dp word w t.rd f h i g).mono (by rintro e j ⟨rfl,c,d⟩;exact⟨rfl,t.NS d c⟩)
theorem F9 (word:Al)(t:Tu base w0 b L n r dp a w)(f:D L<=400)(g:n<=1000)(h:word.size<=10):Uh V 101 #[Ua (I ⟨b,0,U⟩),Uc word] w λx u=>x=R (C (Ts.zD L n word))/\Tu base w0 b L (Ts.behind L n word) r dp a u:=
 (zb1 b L n r dp word w t.rd f g h).mono (by rintro e i ⟨rfl,c,d⟩;exact⟨rfl,t.NS d c⟩)
def rdN (w:E)(b:Nat):Nat:=match l w ⟨b,1,U⟩ with
 |some v=>(intOf v).toNat
 |none=>0
theorem Tu.rdN (t:Tu base w0 b L n r dp a w):rdN w b=n:=by unfold Go.Proofs.YtofeiledkmfnfaaGreatDoor.rdN;rw[t.c1];simp[intOf]
theorem QV (t:Tu base w0 b L n r dp a w)(c:D L<=400)(f:n<=D L):Uh V 54 #[Ua (I ⟨b,0,U⟩)] w λx u=>∃v,x=R v/\zJ u (T (N w0)) v (z7 a 3) (Ts.zA L r n)/\Tu base w0 b L n r dp a u:=
 (vJ b L n r dp a w t.rd t.se c f).mono (by rintro e h ⟨v,rfl,g,d⟩;exact⟨v,rfl,g.base t.on.size,t.calm d⟩)
theorem Yp (s:Al)(c:Int)(t:Tu base w0 b L n r dp a w)(d:c<=1114111)(g:∀b∈s.data.toList,b.toNat<128)(h:A s<=20):Uh V 243 #[Uc s,M Ug c] w λe u=>e=R (C (Ts.O7 s c))/\Tu base w0 b L n r dp a u:=
 (QU s c w d g h).mono (by rintro e i ⟨rfl,f⟩;exact⟨rfl,t.calm f⟩)
theorem Kj (T:TypeId)(k:Nat)(p:Int)(x:Y)(f : Ud T x=z7 a k)(t:Tu base w0 b L n r dp a w):Uh V 55 #[Ud T x,M J p] w λe u=>∃v,e=R v/\zJ u (S (N w0)) v (z7 a k) p/\Tu base w0 b L n r dp a u:=
 (jt T x p w).mono (by rintro e g ⟨v,rfl,c,d⟩;rw[f] at c;exact⟨v,rfl,c.base t.on.size,t.calm d⟩)
theorem jM {f:FuncId}{args:Array Y}{o:Ts.Out}{yes no:Y}(t:Tu base w0 b L n r dp a w)(h:Uh V f args w (xI b L r dp a w o yes no)):Uh V f args w λx u=>Tu base w0 b L o.n r dp a u/\((o.k=0/\x=R (Ue #[yes,Ui]))\/(o.k≠0/\∃v,x=R (Ue #[no,v])/\zJ u (T (N w0)) v (z7 a o.k) o.p)):=
 h.mono (by
  rintro x k ⟨d,e,c⟩;refine⟨t.NS d e,?_⟩;obtain c|⟨g,v,j,i⟩:=c;exact Q c;exact O ⟨g,v,j,i.base t.on.size⟩)
end
def Ml (c:Int):Y:=Ud 245 (M Ug c)
def Md (c:Int):Y:=Ud 246 (M Ug c)
def BB (m:Bool)(c:Int):Y:=match m with
 |true=>Md c
 |false=>Ml c
theorem Y7 (b:Nat)(L:Ai)(n:Nat)(r dp:Int)(a:Nat->Addr)(w:E)(h:yg w b L n r dp)(q:ym w a)(o:10<=b)(d:D L<=400)(B:n<D L)(m:Ts.Fit L):Uh V 217 #[Ua (I ⟨b,0,U⟩)] w (xI b L r dp a w (Ts.xR L r n) (BB (Ts.jy (Ts.zi L (n+1))) (Ts.xR L r n).v) Ui):=by
 have T:=zd (Tu.start h q o);have c1:=h.c1;have f1:=h.f1;have z:=m (n+1);cases hset:Ts.jy (Ts.zi L (n+1))
 .have x:Ts.O7 { data:=#[100,68,119,87,115,83] } (Ts.zi L (n+1))=Z:=hset;cases hback:Ts.backB (Ts.zi L (n+1))
  .have g:H (Ts.xR L r n=Ts.vS L r (n+1)):=(by unfold Ts.xR;rw[iN (by simp[hset]),iN (by simp[hback])];rfl);have s:Ts.O7 { data:=#[49,50,51,52,53,54,55,56,57,107,112,80] } (Ts.zi L (n+1))=Z:=hback;by_cases j:(Ts.vS L r (n+1)).k=0
   .go_enter func217,ntmps217;go_wp2_with(first|(go_at_call 102;refine(qu (n:=n) T d oa).mono ?_;rintro e f ⟨rfl,p,rfl⟩)|(go_at_call 146;refine AL (xd (n:=n+1) ((T.drewN _).N1 _ _ oa) d oa) ?_)|(go_at_call 243;refine(Yp (n:=n+1) _ _ (by first|exact T|exact(T.drewN _).N1 _ _ oa) oa od od).mono ?_;rintro e f ⟨rfl,c⟩;have T:=zd c;have c1:=c.c1;have f1:=c.f1)|(go_at_call 244;refine(jM (n:=n+1) T (Zr b L (n+1) r dp a _ (Tu.rd (n:=n+1) T) (Tu.se (n:=n+1) T) o d oa m)).mono ?_;rintro e f ⟨c,i⟩;obtain rfl:=qt i j;have T:=zd c;have c1:=c.c1;have f1:=c.f1));go_ret2;rw[zb g];exact T.yes j
   go_enter func217,ntmps217;go_wp2_with(first|(go_at_call 102;refine(qu (n:=n) T d oa).mono ?_;rintro e f ⟨rfl,p,rfl⟩)|(go_at_call 146;refine AL (xd (n:=n+1) ((T.drewN _).N1 _ _ oa) d oa) ?_)|(go_at_call 243;refine(Yp (n:=n+1) _ _ (by first|exact T|exact(T.drewN _).N1 _ _ oa) oa od od).mono ?_;rintro e f ⟨rfl,c⟩;have T:=zd c;have c1:=c.c1;have f1:=c.f1)|(go_at_call 244;refine(jM (n:=n+1) T (Zr b L (n+1) r dp a _ (Tu.rd (n:=n+1) T) (Tu.se (n:=n+1) T) o d oa m)).mono ?_;rintro e f ⟨c,i⟩;obtain⟨v,rfl,l⟩:=XK i j;have⟨y,t⟩:=l.form;subst t;have T:=zd c;have c1:=c.c1;have f1:=c.f1));go_ret2;rw[zb g];exact T.no j l
  have g:H (Ts.xR L r n=Ts.bad 6 (Ts.zA L r n) (n+1)):=(by unfold Ts.xR;rw[iN (by simp[hset]),IN hback];rfl);have s:Ts.O7 { data:=#[49,50,51,52,53,54,55,56,57,107,112,80] } (Ts.zi L (n+1))=G:=hback;have u:=T.se.s6;go_enter func217,ntmps217;go_wp2_with(first|(go_at_call 102;refine(qu (n:=n) T d oa).mono ?_;rintro e f ⟨rfl,p,rfl⟩)|(go_at_call 146;refine AL (xd (n:=n+1) ((T.drewN _).N1 _ _ oa) d oa) ?_)|(go_at_call 243;refine(Yp (n:=n+1) _ _ (by first|exact T|exact(T.drewN _).N1 _ _ oa) oa od od).mono ?_;rintro e f ⟨rfl,c⟩;have T:=zd c;have c1:=c.c1;have f1:=c.f1);(have u:=T.se.s6)|(go_at_call 55;refine(Kj (n:=n+1) _ 6 _ _ rfl T).mono ?_;rintro e f ⟨v,rfl,l,c⟩;have T:=zd c;have c1:=c.c1;have f1:=c.f1));go_ret2;exact T.bad g od l
 have g:H (Ts.xR L r n=Ts.good (Ts.zi L (n+1)) (n+2)):=by unfold Ts.xR;rw[IN hset];rfl
 have x:Ts.O7 { data:=#[100,68,119,87,115,83] } (Ts.zi L (n+1))=G:=hset;go_enter func217,ntmps217;go_wp2_with(first|(go_at_call 102;refine(qu (n:=n) T d oa).mono ?_;rintro e f ⟨rfl,p,rfl⟩)|(go_at_call 146;refine AL (xd (n:=n+1) ((T.drewN _).N1 _ _ oa) d oa) ?_)|(go_at_call 243;refine(Yp (n:=n+1) _ _ ((T.drewN _).N1 _ _ oa) oa od od).mono ?_;rintro e f ⟨rfl,c⟩;have T:=zd c;have c1:=c.c1;have f1:=c.f1));go_ret2;exact(T.N1 (n+2) _ oa).good g (by rw[zb g];rfl)
namespace Ts
theorem setB_b:jy 98=Z:=od
theorem setB_d:jy 45=Z:=od
theorem zfm {L:Ai}{n:Nat}(h:zi L n≠92):many L n=Z:=by unfold many;simp[h]
theorem QW {L:Ai}{n:Nat}(h:zi L n=92):many L n=jy (zi L (n+1)):=by unfold many;simp[h]
end Ts
theorem qw (b:Nat)(L:Ai)(n:Nat)(r dp:Int)(a:Nat->Addr)(w:E)(h:yg w b L n r dp)(x:ym w a)(t:10<=b)(g:D L<=400)(W:n<D L)(s:Ts.Fit L):Uh V 263 #[Ua (I ⟨b,0,U⟩)] w (xI b L r dp a w (Ts.zm L r n) (BB (Ts.many L n) (Ts.zm L r n).v) Ui):=by
 have T:=zd (Tu.start h x t);have c1:=h.c1;have f1:=h.f1;clear h x;have S:=s n;by_cases c:Ts.zi L n=92
 .by_cases i:Ts.zi L (n+1)=98
  .have f:H (Ts.zm L r n=Ts.good 8 (n+2)):=(by unfold Ts.zm;rw[IN ⟨c,i⟩];rfl);have m:H (Ts.many L n=Z):=(by rw[Ts.QW c,i];exact Ts.setB_b);have z:Ts.zD L n { data:=#[92,98] }=G:=(by rw[Ts.xi L n 92 98 92 98 rfl rfl];simp[c,i]);clear c i;go_enter func263,ntmps263;go_wp2_with(go_at_call 101;refine(vT (n:=n) _ T g oa od ox).mono ?_;rintro e l ⟨rfl,d⟩;have d:Tu _ _ b L ((n)+2) r dp a l:=d;have T:=zd d;have c1:=d.c1;have f1:=d.f1);go_ret2;exact T.good f (by rw[zb f,zb m];rfl)
  have z:Ts.zD L n { data:=#[92,98] }=Z:=(by rw[Ts.xi L n 92 98 92 98 rfl rfl];simp[c,i]);by_cases o:Ts.zi L (n+1)=45
  .have f:H (Ts.zm L r n=Ts.good 45 (n+2)):=(by unfold Ts.zm;rw[iN (λj=>i j.2),IN ⟨c,o⟩];rfl);have m:H (Ts.many L n=Z):=(by rw[Ts.QW c,o];exact Ts.setB_d);have B:Ts.zD L n { data:=#[92,45] }=G:=(by rw[Ts.xi L n 92 45 92 45 rfl rfl];simp[c,o]);clear c i o;go_enter func263,ntmps263;go_wp2_with(first|(go_at_call 101;refine(xJ (n:=n) _ (by first|exact T|exact T.drewN _) g oa od ox).mono ?_;rintro e l ⟨rfl,u,rfl⟩)|(go_at_call 101;refine(vT (n:=n) _ (T.drewN _) g oa od ox).mono ?_;rintro e l ⟨rfl,d⟩;have d:Tu _ _ b L ((n)+2) r dp a l:=d;have T:=zd d;have c1:=d.c1;have f1:=d.f1));go_ret2;exact T.good f (by rw[zb f,zb m];rfl)
  have B:Ts.zD L n { data:=#[92,45] }=Z:=(by rw[Ts.xi L n 92 45 92 45 rfl rfl];simp[c,o]);have f:H (Ts.zm L r n=Ts.xR L r n):=(by unfold Ts.zm;rw[iN (λj=>i j.2),iN (λj=>o j.2),IN c];rfl);have m:H (Ts.many L n=Ts.jy (Ts.zi L (n+1))):=Ts.QW c;have F:(Ts.zi L n == 92)=G:=(by simp[c]);clear c i o;by_cases q:(Ts.xR L r n).k=0
  .go_enter func263,ntmps263;go_wp2_with(first|(go_at_call 101;refine(xJ (n:=n) _ (by first|exact T|exact T.drewN _) g oa od ox).mono ?_;rintro e l ⟨rfl,u,rfl⟩)|(go_at_call 146;refine AL (xd (n:=n) (T.drewN _) g oa) ?_)|(go_at_call 217;refine(jM (n:=n) (T.drewN _) (Y7 b L n r dp a _ (Tu.rd (n:=n) (T.drewN _)) (Tu.se (n:=n) (T.drewN _)) t g oa s)).mono ?_;rintro e l ⟨d,p⟩;obtain rfl:=qt p q;clear p;have T:=zd d;have c1:=d.c1;have f1:=d.f1));go_ret2;rw[zb f,zb m];exact T.yes q
  go_enter func263,ntmps263;go_wp2_with(first|(go_at_call 101;refine(xJ (n:=n) _ (by first|exact T|exact T.drewN _) g oa od ox).mono ?_;rintro e l ⟨rfl,u,rfl⟩)|(go_at_call 146;refine AL (xd (n:=n) (T.drewN _) g oa) ?_)|(go_at_call 217;refine(jM (n:=n) (T.drewN _) (Y7 b L n r dp a _ (Tu.rd (n:=n) (T.drewN _)) (Tu.se (n:=n) (T.drewN _)) t g oa s)).mono ?_;rintro e l ⟨d,p⟩;obtain⟨v,rfl,y⟩:=XK p q;have⟨P,N⟩:=y.form;subst N;clear p;have T:=zd d;have c1:=d.c1;have f1:=d.f1));go_ret2;rw[zb f,zb m];exact T.no q y
 have z:Ts.zD L n { data:=#[92,98] }=Z:=by rw[Ts.xi L n 92 98 92 98 rfl rfl];simp[c]
 have B:Ts.zD L n { data:=#[92,45] }=Z:=by rw[Ts.xi L n 92 45 92 45 rfl rfl];simp[c]
 have f:H (Ts.zm L r n=Ts.good (Ts.zi L n) (n+1)):=by unfold Ts.zm;rw[iN (λj=>c j.1),iN (λj=>c j.1),iN c];rfl
 have m:H (Ts.many L n=Z):=Ts.zfm c;have F:(Ts.zi L n == 92)=Z:=by simp[c]
 clear c;go_enter func263,ntmps263;go_wp2_with(first|(go_at_call 101;refine(xJ (n:=n) _ (by first|exact T|exact T.drewN _) g oa od ox).mono ?_;rintro e l ⟨rfl,u,rfl⟩)|(go_at_call 146;refine AL (xd (n:=n) (T.drewN _) g oa) ?_));go_ret2;exact(Tu.N1 (T.drewN _) (n+1) _ oa).good f (by rw[zb f,zb m];rfl)
theorem Y8 (b:Nat)(L:Ai)(n:Nat)(r dp:Int)(a:Nat->Addr)(base:Nat)(w0 w:E)(t:Tu base w0 b L n r dp a w)(c:D L<=400)(k:n<=500):Uh V 264 #[Ua (I ⟨b,0,U⟩)] w λx u=>x=R (C (Ts.j5 L n))/\u=w:=by
 have T:=zd t;by_cases e:Ts.zi L n=45
 .by_cases f:Ts.zi L (n+1)=93
  .have d:H (Ts.j5 L n=Z):=(by unfold Ts.j5;simp[e,f];trivial);go_enter func264,ntmps264;go_wp2_with(first|(go_at_call 146;refine AL (xd (n:=n) T c oa) ?_)|(go_at_call 148;refine AL (KR (n:=n) 1 T c oa oa) ?_));go_ret;rw[zb d];exact⟨rfl,rfl⟩
  by_cases g:Ts.zi L (n+1) = -1
  .have d:H (Ts.j5 L n=Z):=(by unfold Ts.j5;simp[e,g];trivial);go_enter func264,ntmps264;go_wp2_with(first|(go_at_call 146;refine AL (xd (n:=n) T c oa) ?_)|(go_at_call 148;refine AL (KR (n:=n) 1 T c oa oa) ?_));go_ret;rw[zb d];exact⟨rfl,rfl⟩
  have d:H (Ts.j5 L n=G):=(by unfold Ts.j5;simp[e,f,g];trivial);have i:(Ts.zi L (n+1) != 93)=G:=(by simp[f]);have j:(Ts.zi L (n+1) != -1)=G:=(by simp[g]);go_enter func264,ntmps264;go_wp2_with(first|(go_at_call 146;refine AL (xd (n:=n) T c oa) ?_)|(go_at_call 148;refine AL (KR (n:=n) 1 T c oa oa) ?_));go_ret;rw[zb d];exact⟨rfl,rfl⟩
 have d:H (Ts.j5 L n=Z):=by unfold Ts.j5;simp[e];trivial
 have h:(Ts.zi L n == 45)=Z:=by simp[e]
 go_enter func264,ntmps264;go_wp2_with(first|(go_at_call 146;refine AL (xd (n:=n) T c oa) ?_)|(go_at_call 148;refine AL (KR (n:=n) 1 T c oa oa) ?_));go_ret;rw[zb d];exact⟨rfl,rfl⟩
structure xE (w:E)(b:Nat)(s:Al)(nx p:Nat)(ch:Int):Prop where
 c0:l w ⟨b,0,U⟩=I (Uc s)
 c1:l w ⟨b,1,U⟩=I (M J nx)
 c2:l w ⟨b,2,U⟩=I (M J p)
 c3:l w ⟨b,3,U⟩=I (M Ug ch)
 f1:dz w ⟨b,1,U⟩=Z
 f2:dz w ⟨b,2,U⟩=Z
 f3:dz w ⟨b,3,U⟩=Z
section
variable {w u:World} {b:Nat} {s:Al} {h p:Nat} {ch:Int}
theorem xE.lt (a:xE w b s h p ch):b<T (N w):=zic w ⟨b,0,U⟩ a.c0
theorem xE.keep {P:Aj}(a:xE w b s h p ch)(k:zg P w u)(c:¬P b):xE u b s h p ch:=
 ⟨(k.cell (p:=⟨b,0,U⟩) a.lt c).trans a.c0,(k.cell (p:=⟨b,1,U⟩) a.lt c).trans a.c1,(k.cell (p:=⟨b,2,U⟩) a.lt c).trans a.c2,(k.cell (p:=⟨b,3,U⟩) a.lt c).trans a.c3,
  (k.frozen (p:=⟨b,1,U⟩) a.lt c).trans a.f1,(k.frozen (p:=⟨b,2,U⟩) a.lt c).trans a.f2,(k.frozen (p:=⟨b,3,U⟩) a.lt c).trans a.f3⟩
theorem xE.drewN (a:xE w b s h p ch)(q:Nat):xE (w.drewN q) b s h p ch:=a.keep ((zg.refl (λ_=>False) w).drewN q) id
theorem xE.set1 (a:xE w b s h p ch)(n:Nat)(j:Int)(c:j=(n:Int)):xE (w.setCell ⟨b,1,U⟩ (M J j)) b s n p ch:=by subst c;exact⟨(AN _ _ _ _ ov).trans a.c0,AX _ _ _ a.c1,(AN _ _ _ _ ov).trans a.c2,(AN _ _ _ _ ov).trans a.c3,(zl _ _ _ _).trans a.f1,(zl _ _ _ _).trans a.f2,(zl _ _ _ _).trans a.f3⟩
theorem xE.set2 (a:xE w b s h p ch)(n:Nat)(j:Int)(c:j=(n:Int)):xE (w.setCell ⟨b,2,U⟩ (M J j)) b s h n ch:=by subst c;exact⟨(AN _ _ _ _ ov).trans a.c0,(AN _ _ _ _ ov).trans a.c1,AX _ _ _ a.c2,(AN _ _ _ _ ov).trans a.c3,(zl _ _ _ _).trans a.f1,(zl _ _ _ _).trans a.f2,(zl _ _ _ _).trans a.f3⟩
theorem xE.set3 (a:xE w b s h p ch)(j k:Int)(c:k=j):xE (w.setCell ⟨b,3,U⟩ (M Ug k)) b s h p j:=by subst c;exact⟨(AN _ _ _ _ ov).trans a.c0,(AN _ _ _ _ ov).trans a.c1,(AN _ _ _ _ ov).trans a.c2,AX _ _ _ a.c3,(zl _ _ _ _).trans a.f1,(zl _ _ _ _).trans a.f2,(zl _ _ _ _).trans a.f3⟩
end
namespace Ts
def qY (b:Int):Int:=if b<128 then b else if b<224 then b % 32 else if b<240 then b % 16 else b % 8
def jB (s:Al)(h:Nat)(b a:Int):Bool:=decide (h<A s) && decide (b<=ze s h) && decide (ze s h<=a)
theorem WX {s:Al}{h:Nat}{c b:Int}(a:h<A s)(d:¬ze s h<c)(e:¬b<ze s h):jB s h c b=G:=by unfold jB;simp;omega
theorem Vr {s:Al}{h:Nat}{c b:Int}(a:¬(h<A s/\c<=ze s h/\ze s h<=b)):jB s h c b=Z:=by
 cases hb:jB s h c b with
 |false=>rfl
 |true=>unfold jB at hb;simp at hb;exact absurd ⟨hb.1.1,hb.1.2,hb.2⟩ a
end Ts
theorem Eu (b:Nat)(s:Al)(h p:Nat)(ch:Int)(w:E)(a:xE w b s h p ch)(S:A s<=400)(k:h<A s):Uh V 171 #[Ua (I ⟨b,0,U⟩)] w λx u=>x=R (M .u8 (ze s h))/\xE u b s (h+1) p (Ts.qY (ze s h))/\zg (zr b) w u:=by
 have m:=zd a;have⟨q,c1,r,t,f1,B,F⟩:=a;have d:=(zw s h).2 k;have L:=xk s h;have P:∀e,(Instr.index 9 (Uc s) (M J (h:Int))).run V e=.ok (M .u8 (ze s h)) e:=λe=>ZT s h k _ rfl e;have n:(ze s h<128/\H (Ts.qY (ze s h)=ze s h))\/(128<=ze s h/\ze s h<224/\H (Ts.qY (ze s h)=ze s h % 32))\/(128<=ze s h/\224<=ze s h/\ze s h<240/\H (Ts.qY (ze s h)=ze s h % 16))\/(128<=ze s h/\224<=ze s h/\240<=ze s h/\H (Ts.qY (ze s h)=ze s h % 8)):=by unfold Ts.qY;by_cases f:ze s h<128;left;rw[IN f];exact⟨f,rfl⟩;right;rw[iN f];by_cases g:ze s h<224;left;rw[IN g];exact⟨oa,g,rfl⟩;right;rw[iN g];by_cases i:ze s h<240;left;rw[IN i];exact⟨oa,oa,i,rfl⟩;right;rw[iN i];exact⟨oa,oa,oa,rfl⟩
 have y:=u8_and31 (ze s h) d oa;have v:=u8_and15 (ze s h) d oa;have z:=u8_and7 (ze s h) d oa;have N:IntKind.i32.wrap (ze s h)=ze s h:=wraps_i32 _ d oa;obtain⟨j,c⟩|⟨j,l,c⟩|⟨j,l,o,c⟩|⟨j,l,o,c⟩:=n
 all_goals
  go_enter func171,ntmps171;go_wp2;go_quiet(fail);go_wp2;go_ret;refine⟨rfl,((m.drewN _).set1 (h+1) _ oa).set3 _ _ ?_,(Ah.NS _ _).NS _ _⟩;rw[zb c]
  try rw[wraps_i32 _ oa oa]
theorem Dg (b:Nat)(s:Al)(h p:Nat)(ch d c:Int)(w:E)(a:xE w b s h p ch)(T:s.size<=400)(P:h<=s.size)(z:0<=ch)(B:ch<33554432)(N:128<=d)(F:c<=191):Uh V 172 #[Ua (I ⟨b,0,U⟩),M .u8 d,M .u8 c] w λx u=>zg (zr b) w u/\((Ts.jB s h d c=G/\x=R (C G)/\xE u b s (h+1) p (ch*64+ze s h-128))\/(Ts.jB s h d c=Z/\x=R (C Z)/\xE u b s h p ch)):=by
 have f:=zd a;have⟨n,c1,o,q,f1,t,v⟩:=a;by_cases i:h<s.size
 .have m:((h:Int) == (s.size:Int))=Z:=by simp;omega
  have l:=(zw s h).2 i;have y:=xk s h;have L:∀g,(Instr.index 9 (Uc s) (M J (h:Int))).run V g=.ok (M .u8 (ze s h)) g:=λg=>ZT s h i _ rfl g;by_cases j:ze s h<d
  .have e:H (Ts.jB s h d c=Z):=Ts.Vr oa;go_enter func172,ntmps172;go_wp2;go_quiet(fail);go_wp2;go_quiet(fail);go_wp2;go_ret;exact⟨by first|exact Ah|exact Ah.drewN _,O ⟨e,rfl,by first|exact f.drewN _|exact(f.drewN _).drewN _⟩⟩
  by_cases k:c<ze s h
  .have e:H (Ts.jB s h d c=Z):=Ts.Vr oa;go_enter func172,ntmps172;go_wp2;go_quiet(fail);go_wp2;go_quiet(fail);go_wp2;go_ret;exact⟨by first|exact Ah|exact Ah.drewN _,O ⟨e,rfl,by first|exact f.drewN _|exact(f.drewN _).drewN _⟩⟩
  (have e:H (Ts.jB s h d c=G):=Ts.WX i j k;have r:=u8_and63 (ze s h) l oa;have S:bits BinOp.or IntKind.i32 (ch*64) (ze s h % 64)=ch*64+ze s h-128:=by rw[i32_or6 (ch*64) (ze s h % 64) oa oa oa oa oa];omega);go_enter func172,ntmps172;go_wp2;go_quiet(fail);go_wp2;go_quiet(fail);go_wp2;go_ret;exact⟨(Ah.NS _ _).NS _ _,Q ⟨e,rfl,((f.drewN _).set1 (h+1) _ oa).set3 _ _ rfl⟩⟩
 have m:((h:Int) == (s.size:Int))=G:=by simp;omega
 have e:H (Ts.jB s h d c=Z):=Ts.Vr oa;go_enter func172,ntmps172;go_wp2;go_quiet(fail);go_wp2;go_ret;exact⟨Ah,O ⟨e,rfl,f.drewN _⟩⟩
def Exit.jumps (b:Nat->Act->E->Prop)(Q:Exit->Act->E->Prop):Exit->Act->E->Prop
 | .goto l,a,w=>b l a w
 |e,a,w=>Q e a w
theorem WA {P:Program}{a:Act}{w:E}{Q:Exit->Act->E->Prop}{c:Code}(m:Nat->Act->E->Prop)(μ:Ak)(rest:Nat->Code)(L:∀l a w,m l a w->findLabel c l=I (rest l))(first:c.wp P (Exit.jumps m Q) a w)(S:∀l a w,m l a w->(rest l).wp P (Exit.jumps (λj o u=>m j o u/\μ j<μ l) Q) a w):(Code.scope c).wp P Q a w:=by
 intro b k p;have B:∀l a w,m l a w->gotoIn l (.inScope c :: k)=I (.code (rest l) :: .inScope c :: k):=λl a w h=>by simp[gotoIn,L l a w h]
 have key:∀n l a w,μ l=n->m l a w->∃e o u,Q e o u/\Arrives P (lone (b.at a (.code (rest l) :: .inScope c :: k)) p w) b k p e o u:=by
  intro n
  induction n using Nat.strongRecOn with
  |_ n N=>
   intro l a w W F;have⟨e,d,f,g,i⟩:=S l a w F b (.inScope c :: k) p;cases e with
   |normal=>exact⟨.normal,d,f,g,Steps.trans i (.one step_inScope)⟩
   |exit id=>exact⟨.exit id,d,f,g,λx t=>i x (by simp[exitTo,t])⟩
   |goto j=>
    have⟨z,T⟩:=g;have⟨r,q,y,v,s⟩:=N _ oa j d f rfl z;exact⟨r,q,y,v,.of_steps (i _ (B j d f z)) s⟩
   |ret=>exact⟨_,d,f,g,i⟩
   |panic ch=>exact⟨_,d,f,g,i⟩
   |outgrown=>exact⟨_,d,f,g,i⟩
 have⟨e,d,f,g,i⟩:=first b (.inScope c :: k) p
 cases e with
 |normal=>exact⟨.normal,d,f,g,.head step_scope (Steps.trans i (.one step_inScope))⟩
 |exit id=>exact⟨.exit id,d,f,g,λx t=>.head step_scope (i x (by simp[exitTo,t]))⟩
 |goto j=>
  have⟨r,q,y,v,s⟩:=key _ j d f rfl g;exact⟨r,q,y,v,.of_steps (.head step_scope (i _ (B j d f g))) s⟩
 |ret=>exact⟨_,d,f,g,.of_steps (.one step_scope) i⟩
 |panic ch=>exact⟨_,d,f,g,.of_steps (.one step_scope) i⟩
 |outgrown=>exact⟨_,d,f,g,.of_steps (.one step_scope) i⟩
theorem Vs {P:Program}{a:Act}{w:E}{Q:Exit->Act->E->Prop}{c r0 f g i j k m:Code}(d:Nat->Act->E->Prop)(μ:Ak)(y:findLabel c 0=I r0) (z:findLabel c 1=I f) (B:findLabel c 2=I g) (F:findLabel c 3=I i) (L:findLabel c 4=I j) (N:findLabel c 5=I k) (S:findLabel c 6=I m)(n:∀l a w,d l a w->l<=6) (first:c.wp P (Exit.jumps d Q) a w)(p:∀a w,d 0 a w->r0.wp P (Exit.jumps (λb e u=>d b e u/\μ b<μ 0) Q) a w) (q:∀a w,d 1 a w->f.wp P (Exit.jumps (λb e u=>d b e u/\μ b<μ 1) Q) a w)(r:∀a w,d 2 a w->g.wp P (Exit.jumps (λb e u=>d b e u/\μ b<μ 2) Q) a w) (s:∀a w,d 3 a w->i.wp P (Exit.jumps (λb e u=>d b e u/\μ b<μ 3) Q) a w)(t:∀a w,d 4 a w->j.wp P (Exit.jumps (λb e u=>d b e u/\μ b<μ 4) Q) a w) (v:∀a w,d 5 a w->k.wp P (Exit.jumps (λb e u=>d b e u/\μ b<μ 5) Q) a w)(x:∀a w,d 6 a w->m.wp P (Exit.jumps (λb e u=>d b e u/\μ b<μ 6) Q) a w):(Code.scope c).wp P Q a w:=by
 have o:∀l,l<=6->l=0\/l=1\/l=2\/l=3\/l=4\/l=5\/l=6:=λl h=>oa;refine WA d μ (λl=>match l with
  |0=>r0
  |1=>f
  |2=>g
  |3=>i
  |4=>j
  |5=>k
  |_=>m) ?_ first ?_
 grind
 intro l a w h;obtain rfl|rfl|rfl|rfl|rfl|rfl|rfl:=o l (n l a w h);exact p a w h;exact q a w h;exact r a w h;exact s a w h;exact t a w h;exact v a w h;exact x a w h
namespace Ts
section
variable (s:Al)
def BR (h:Nat)(ch:Int):Option (Nat×Int):=if jB s h 128 191=G then I (h+1,ch*64+ze s h-128) else U
def F4 (h:Nat)(ch:Int):Option (Nat×Int):=if jB s h 128 191=G then BR s (h+1) (ch*64+ze s h-128) else U
def C7 (b a:Int)(h:Nat)(ch:Int):Option (Nat×Int):=if jB s h b a=G then BR s (h+1) (ch*64+ze s h-128) else U
def Na (b a:Int)(h:Nat)(ch:Int):Option (Nat×Int):=if jB s h b a=G then F4 s (h+1) (ch*64+ze s h-128) else U
def atLab (l:Nat)(h:Nat)(ch:Int):Option (Nat×Int):=match l with
 |0=>BR s h ch
 |1=>C7 s 160 191 h ch
 |2=>C7 s 128 159 h ch
 |3=>F4 s h ch
 |4=>Na s 144 191 h ch
 |5=>Na s 128 191 h ch
 |_=>Na s 128 143 h ch
def jV (b:Int):Nat:=if b<128 then 7 else if b<194 then 8 else if b<224 then 0 else if b=224 then 1 else if b=237 then 2 else if b<240 then 3 else if b=240 then 4 else if b<244 then 5 else if b=244 then 6 else 8
def qx (p:Nat):Option (Nat×Int):=
 if p<A s then(if jV (ze s p)=7 then I (p+1,ze s p) else if jV (ze s p)=8 then U else atLab s (jV (ze s p)) (p+1) (qY (ze s p))) else U
end
end Ts
def Mx (b:Nat)(s:Al)(p:Nat)(w:E)(l:Nat)(a:Act)(u:E):Prop:=l<=6/\(∃(h:Nat) (ch:Int),xE u b s h p ch/\0<=ch/\ch<(if l=0 then 33554432 else if l<=3 then 524288 else 8192)/\h<=A s/\Ts.qx s p=Ts.atLab s l h ch)/\zg (zr b) w u/\
 ∃u1 u2 u3 u4 u5 u6 u7 u8 u9 u10 u11 u12 u13 u14 u15 u16 u17 u18 u19 u20 u21 u22 u23 u24 u25 u26 u27 u28 u29 u30 u31 u32 u33 u34 u35 u36 u37 u38 u39 u40 u41 u42 u43 u44 u45 u46 u47 u48 u49 u50 u51 u52 u53 u54 u55 u56 u57 u58 u59 u60 u61 u62 u63:Y,a = { tmps:=#[Ua (I ⟨b,0,U⟩),u1,u2,u3,u4,u5,u6,u7,u8,u9,u10,u11,u12,u13,u14,u15,u16,u17,u18,u19,u20,u21,u22,u23,u24,u25,u26,u27,u28,u29,u30,u31,u32,u33,u34,u35,u36,u37,u38,u39,u40,u41,u42,u43,u44,u45,u46,u47,u48,u49,u50,u51,u52,u53,u54,u55,u56,u57,u58,u59,u60,u61,u62,u63],defers:=[] }
theorem XM {b:Nat->Act->E->Prop}{Q:Exit->Act->E->Prop}{a:Act}{w:E}:Exit.jumps b Q .ret a w=Q .ret a w:=rfl
namespace Ts
theorem Kk {s:Al}{p:Nat}(h:p<A s)(a:ze s p<128):qx s p=I (p+1,qY (ze s p)):=by
 have e:jV (ze s p)=7:=by unfold jV;rw[IN a]
 have b:qY (ze s p)=ze s p:=by unfold qY;rw[IN a]
 unfold qx;rw[IN h,IN e,b]
theorem wL {s:Al}{p:Nat}(a:jV (ze s p)=8):qx s p=U:=by unfold qx;rw[a];simp
theorem jN {s:Al}{p l:Nat}(h:p<A s)(a:jV (ze s p)=l)(b:l<=6):qx s p=atLab s l (p+1) (qY (ze s p)):=by subst a;unfold qx;rw[IN h,iN oa,iN oa]
theorem tailB_in {s:Al}{h:Nat}{c b:Int}(a:jB s h c b=G):h<A s:=by unfold jB at a;simp at a;exact a.1.1
theorem zb2 {s:Al}{h:Nat}{c b:Int}(a:jB s h c b=G):c<=ze s h/\ze s h<=b:=by unfold jB at a;simp at a;exact⟨a.1.2,a.2⟩
theorem zgA {b:Int}(a:128<=b)(c:b<256):0<=qY b/\qY b<32:=by unfold qY;(repeat' split)<;>omega
end Ts
def NL (l:Nat):Nat:=if l=0 then 0 else if l<=3 then 1 else 2
theorem zb3 (b:Nat)(s:Al)(h p:Nat)(ch:Int)(w:E)(d:xE w b s h p ch)(B:s.size<=400)(hn:h<=s.size):Uh V 136 #[Ua (I ⟨b,0,U⟩)] w λx u=>zg (zr b) w u/\((∃n c,Ts.qx s h=I (n,c)/\x=R (C G)/\xE u b s n h c)\/(Ts.qx s h=U/\x=R (C Z))):=by
 have q:=zd d;have T:=d.c0;have c1:=d.c1;have W:=d.c2;have X:=d.f2;go_enter func136,ntmps136;go_wp2_with fail;refine Vs (Mx b s h w) NL rfl rfl rfl rfl rfl rfl rfl (λl a w d=>d.1) ?_ ?_ ?_ ?_ ?_ ?_ ?_ ?_
 case refine_1=>
  by_cases k:h<s.size
  ·((have he:((h:Int) == (s.size:Int))=Z:=ou;have af:=(zw s h).2 k;have ag:=xk s h;go_wp2;go_quiet(fail);go_wp2_with(go_at_call 171;refine(Eu b s h h ch _ (by first|exact(q.set2 h _ rfl).drewN _|exact q.set2 h _ rfl) B k).mono ?_;rintro e F ⟨rfl,m,f⟩;have j:=zd m;have g:H (zg (zr b) w F):=by first|exact(((zg.refl (zr b) w).NS 2 _).drewN _).trans f|exact(((zg.refl (zr b) w).drewN _).NS 2 _).trans f|exact((zg.refl (zr b) w).NS 2 _).trans f));all_goals have y:=Ts.zgA (b:=ze s h));all_goals try simp only[beq_iff_eq,beq_eq_false_iff_ne,ne_eq] at *
   all_goals first
    |(rw[XM];go_ret;first|exact⟨g,O ⟨Ts.wL (by unfold Ts.jV;(repeat' split)<;>omega),rfl⟩⟩|exact⟨g,Q ⟨h+1,Ts.qY (ze s h),Ts.Kk k oa,rfl,j⟩⟩)
    |(go_step3;exact⟨od,⟨h+1,Ts.qY (ze s h),j,(y oa oa).1,(by have:=(y oa oa).2;simp;omega),oa,Ts.jN k (by unfold Ts.jV;(repeat' split)<;>omega) od⟩,g,_,_,_,_,_,_,_,_,_,_,_,_,_,_,_,_,_,_,_,_,_,_,_,_,_,_,_,_,_,_,_,_,_,_,_,_,_,_,_,_,_,_,_,_,_,_,_,_,_,_,_,_,_,_,_,_,_,_,_,_,_,_,_,rfl⟩)
  have he:((h:Int) == (s.size:Int))=G:=ou;have P:H (Ts.qx s h=U):=(by unfold Ts.qx;rw[iN k];rfl);go_wp2;go_quiet(fail);go_wp2;rw[XM];go_ret;exact⟨((zg.refl _ _).NS _ _).drewN _,O ⟨P,rfl⟩⟩
 all_goals
  rintro a' u ⟨_,⟨n1,r,z,aa,ab,ad,v⟩,t,u1,u2,u3,u4,u5,u6,u7,u8,u9,u10,u11,u12,u13,u14,u15,u16,u17,u18,u19,u20,u21,u22,u23,u24,u25,u26,u27,u28,u29,u30,u31,u32,u33,u34,u35,u36,u37,u38,u39,u40,u41,u42,u43,u44,u45,u46,u47,u48,u49,u50,u51,u52,u53,u54,u55,u56,u57,u58,u59,u60,u61,u62,u63,rfl⟩;simp at ab;have L:=zd z;have N:=zd t;have o:=zd v;have ah:=xk s n1;go_wp2_with(go_at_call 172;refine zb ?_);refine zd ?_;refine(Dg b s n1 h r _ _ _ L B ad aa oa od od).mono ?_;rintro e F ⟨f,⟨i,rfl,m⟩|⟨i,rfl,_⟩⟩
  all_goals have g:=zd (N.trans f)
  .have aj:=Ts.tailB_in i;have ai:=Ts.zb2 i;have j:=zd m;go_wp2_with fail
   first
    |(rw[XM];go_ret;exact⟨g,Q ⟨_,_,o.trans (IN i),rfl,j⟩⟩)
    |(go_step3;exact⟨⟨od,⟨n1+1,r*64+ze s n1-128,j,oa,ou,oa,o.trans (IN i)⟩,g,_,_,_,_,_,_,_,_,_,_,_,_,_,_,_,_,_,_,_,_,_,_,_,_,_,_,_,_,_,_,_,_,_,_,_,_,_,_,_,_,_,_,_,_,_,_,_,_,_,_,_,_,_,_,_,_,_,_,_,_,_,_,_,rfl⟩,od⟩)
  have S:H (¬Ts.jB s n1 _ _=G):=λd=>(by rw[i] at d;cases d);go_wp2;rw[XM];go_ret;exact⟨g,O ⟨o.trans (iN (zb S)),rfl⟩⟩
theorem zg.putObj {P:Aj}{a w:E}(h:zg P a w)(l:Nat)(o:Obj)(b:P l\/T (N a)<=l):zg P a (w.putObj l o):=
 ⟨h.os,h.tape,h.output,AP h.size (by simp[World.putObj]),λk d c=>(dP (by
  rintro rfl;obtain b|b:=b;exact c b;omega)).trans (h.block k d c)⟩
def Dp (A:E)(k:Nat):Prop:=∃s,l A ⟨k,0,U⟩=I (Uc s)
theorem zeh {A:E}{k:Nat}{o:Obj}(h:A.heap[k]?=I o)(b:o.isCells=Z):¬Dp A k:=by
 rintro⟨s,a⟩;unfold l at a;rw[h] at a;cases o with
 |cells c T f=>simp[Obj.isCells] at b
 |_=>simp at a
structure ZV (W W':E):Prop where
 size:T (N W)<=T (N W')
 same:∀(k:Nat),Dp W k->W'.heap[k]?=W.heap[k]?
theorem ZV.trans {A B C:E}(h:ZV A B)(k:ZV B C):ZV A C:=⟨AP h.size k.size,λi a=>(k.same i (by
 have⟨s,b⟩:=a;exact⟨s,(FX (w:=A) (h.same i ⟨s,b⟩)).trans b⟩)).trans (h.same i a)⟩
theorem ZV.putObj (W:E)(l:Nat)(o d:Obj)(c:W.heap[l]?=I o)(a:o.isCells=Z):ZV W (W.putObj l d):=
 ⟨by simp[World.putObj],λk b=>dP (by
  rintro rfl;exact zeh c a b)⟩
def Ms {α:Type}(F:Fence)(n:Nat)(P:Program)(gf:Nat)(lb:Array Y)(g:α->Array Y)(xs:List α)(w0:E):Prop:=
 ∀(l:Nat) (b:List α->E->Prop) (W:E),zke w0 W->
  (∀c a d,b c a->zg (λk=>T (N W)<=k/\Dp a k) a d->b c d)->
  (∀c x a,b c a->(c++[x]) <+: xs->YieldAt F (n-1) P l (g x) a λe d=>e=R (C G)/\b (c++[x]) d/\ZV a d)->
  b [] W->CallsIn F n P gf (#[.func (.yield l) #[] #[]]++lb) W λe f=>(∃v,e=R v)/\b xs f
def EL {α:Type}(B:Nat)(a:List α->E->Prop)(xs:List α)(W:E):Exit->Act->E->Prop
 | .normal,_,W'=>KeepsFrom B W W'/\ZV W W'/\a xs W'
 |_,_,_=>False
variable {F:Fence} {n:Nat} {P:Program}
theorem zb4 {α:Type}{g:Operand}{ps:Array Tmp}{assign body:Code}{Q:Exit->Act->World->Prop}{a:Act}{w:World}(hro:F.round=none) (h1:1<=n) {gf:Nat} {lb:Array Value} (hg:a.eval g=.func (.func gf) #[] lb) (hFg:F.fn gf) (eg:∀args w,(callFunc gf args).run P w=.ok (.enter gf args) w){encs:α->Array Value} {xs:List α} (hseq:Ms F (n-1) P gf lb encs xs w) (hps:∀x,(encs x).size=ps.size)(I:List α->World->Prop)(hI:∀pre A A',I pre A->zg (fun k=>T (N w)<=k/\(Dp A k\/∃o,A.heap[k]?=some o/\o.isCells=false)) A A'->I pre A')(h0:I [] w) (a₁:α->Act)(hassign:∀(l:Nat) (x:α) (W:World) (K:Act->World->Prop),K (a₁ x) W->assign.wpIn (F.inRound l) (n-1-1) P (Exit.then K (fun _ _ _=>False)) { tmps:=(ps.zip (encs x)).foldl (fun t (p,v)=>t.setIfInBounds p v) a.tmps,defers:=[] } W)(hbody:∀(l:Nat) (pre:List α) (x:α) (W:World),I pre W->(pre++[x]) <+: xs->body.wpIn (F.inRound l) (n-1-1) P (EL (T (N w)) I (pre++[x]) W) (a₁ x) W)(hdone:∀(D:Nat) (W:World),T (N w)<=D->I xs W->W.heap[D]?=some (.deferred (some []))->Q .normal { a with defers:={ target:=.collected D,args:=#[] }:: a.defers } W):(Code.rangeFunc g ps assign body).wpIn F n P Q a w:=by
 refine wpIn_rangeFunc ?_;intro fn hfn;rw[hro];obtain⟨rec,hrec⟩:∃rec:LoopState->Loop,rec=fun st=>{ state:=st,pending:=none,fn,tmps:=a.tmps,params:=ps,assign,body,defers:=T (N w) }:=⟨_,rfl⟩
 obtain⟨V,hV⟩:∃V,(dB w (.deferred (some []))).alloc (.loop (rec .ready))=V:=⟨_,rfl⟩
 have hO:zke w V:=by rw[<-hV];exact((zg.refl _ w).alloc _).alloc _
 have hsz:T (N V)=T (N w)+1+1:=by rw[<-hV];simp
 have hL1:V.heap[T (N w)+1]?=some (.loop (rec .ready)):=by
  rw[<-hV];have:=World.alloc_heap_new (dB w (.deferred (some []))) (.loop (rec .ready));rwa [Iu] at this
 have hD1:V.heap[T (N w)]?=some (.deferred (some [])):=by
  rw[<-hV];exact(Below.heap_alloc _ _ _ ov).trans (World.alloc_heap_new w _)
 refine⟨T (N w)+1,[{ target:=.collected (T (N w)),args:=#[] }],V,{ target:=.fn (.func gf) lb,args:=#[.func (.yield (T (N w)+1)) #[] #[]] },V,gf,
  #[.func (.yield (T (N w)+1)) #[] #[]]++lb,V,?_,?_,?_,?_,fun _=>h1,?_⟩
 ·rw[<-hV,hrec];exact run_enterLoop_outer _ _ _ _ _
 ·simp only[resolve,hg];simp[go_sem]
 ·intro f' hf';simp[Target.leads] at hf';subst hf';exact hFg
 ·simp[invoke,go_sem,eg]
 ·have put:∀pre A o o',I pre A->A.heap[T (N w)+1]?=some o->o.isCells=false->I pre (A.putObj (T (N w)+1) o'):=fun pre A o o' hi ho hc=>
   hI pre A _ hi ((zg.refl _ A).putObj _ _ (.inl ⟨oa,.inr ⟨o,ho,hc⟩⟩))
  refine(hseq (T (N w)+1) (fun pre W=>I pre W/\W.heap[T (N w)+1]?=some (.loop (rec .ready))/\W.heap[T (N w)]?=some (.deferred (some []))) V hO ?_ ?_ ⟨hI _ _ _ h0 (hO.mono (fun _ _ f=>f.elim)),hL1,hD1⟩).mono ?_
  ·rintro pre A A' ⟨hi,hl,hd⟩ hA;have lt:∀k o,A.heap[k]?=some o->k<T (N V)->A'.heap[k]?=some o:=fun k o hk hlt=>(hA.block k (A1.1 hk).1 (fun hp=>oa)).trans hk;exact⟨hI pre A A' hi (hA.mono (fun k hk hp=>⟨oa,.inl hp.2⟩)),lt _ _ hl oa,lt _ _ hd oa⟩
  ·rintro pre x W ⟨hi,hl,hd⟩ hpre;have hlt:T (N w)+1<T (N W):=(A1.1 hl).1;have hy:=run_yield (P:=P) (args:=encs x) hl (by rw[hrec];exact hps x);rw[hrec] at hy;refine⟨fn,_,assign,body,hy,roundIn_of_wpIn hfn (hassign _ x W _ ⟨_,run_beginRound hl (by rw[hrec]),?_⟩)⟩;have hl2:(W.putObj (T (N w)+1) (.loop { rec .ready with state:=.busy })).heap[T (N w)+1]?=some (.loop { rec .ready with state:=.busy }):=World.putObj_heap_same hlt;have hd2:(W.putObj (T (N w)+1) (.loop { rec .ready with state:=.busy })).heap[T (N w)]?=some (.deferred (some [])):=(dP oa).trans hd;have hk2:ZV W (W.putObj (T (N w)+1) (.loop { rec .ready with state:=.busy })):=ZV.putObj _ _ _ _ hl rfl;refine wpIn_mono (hbody _ pre x _ (put _ _ _ _ hi hl rfl) hpre) ?_;rintro e a3 W3 hp;cases e with
   |normal=>
    obtain⟨hk3,hkt3,hi3⟩:=hp;have hl3:=hk3.same _ _ oa hl2 rfl;have hd3:=hk3.same _ _ (AD _) hd2 rfl;have hr:=run_endRound (P:=P) none hl3;refine⟨_,_,hr,rfl,⟨put _ _ _ _ hi3 hl3 rfl,?_,(dP oa).trans hd3⟩,(hk2.trans hkt3).trans (ZV.putObj _ _ _ _ hl3 rfl)⟩;rw[World.putObj_heap_same (A1.1 hl3).1,hrec];rfl
   |ret=>exact hp.elim
   |exit id=>exact hp.elim
   |goto t=>exact hp.elim
   |panic ch=>exact hp.elim
   |outgrown=>exact hp.elim
  ·rintro e W2 ⟨⟨v,rfl⟩,hi,hl,hd⟩;have he:=run_endLoop (P:=P) hl (by rw[hrec];simp);refine⟨none,_,he.trans (by rw[hrec]),?_⟩;exact hdone _ _ (AD _) (put _ _ _ _ hi hl rfl) ((dP oa).trans hd)
end
section
open Go.RowKit
def TO {α:Type}(F:Fence)(n:Nat)(P:Program)(gf:Nat)(lb:Array Y)(j:α->Array Y)(xs:List α)(D:Aj)(w0:E):Prop:=
 ∀(l:Nat) (d:List α->Aj->E->Prop) (h:Aj) (W:E),zke w0 W->(∀k,D k->¬h k)->(∀k,h k->k<T (N W))->
  (∀f b a c,d f b a->zg (λk=>T (N W)<=k/\¬b k) a c->d f b c)->
  (∀f b x a,d f b a->(f++[x]) <+: xs->YieldAt F (n-1) P l (j x) a λe c=>e=R (C G)/\∃g,d (f++[x]) g c/\(∀k,g k->b k\/T (N a)<=k)/\zg b a c/\∀k,g k->k<T (N c))->
  d [] h W->CallsIn F n P gf (#[.func (.yield l) #[] #[]]++lb) W λe i=>(∃v,e=R v)/\∃g,d xs g i
def EM {α:Type}(a:List α->Aj->E->Prop)(xs:List α)(O:Aj)(W:E):Exit->Act->E->Prop
 | .normal,_,W'=>∃O',a xs O' W'/\(∀k,O' k->O k\/T (N W)<=k)/\zg O W W'/\∀k,O' k->k<T (N W')
 |_,_,_=>False
variable {F:Fence} {n:Nat} {P:Program}
theorem xP (W:E)(l:Nat)(o:Obj):(W.putObj l o).heap.size=T (N W):=by simp[World.putObj]
theorem Y9 {α:Type}{g:Operand}{ps:Array Tmp}{assign body:Code}{Q:Exit->Act->E->Prop}{a:Act}{w:E}(aV:F.round=U) (h1:1<=n) {gf:Nat} {lb:Array Y} (hg:a.eval g=.func (.func gf) #[] lb) (aC:F.fn gf) (eg:∀args w,(callFunc gf args).run P w=.ok (.enter gf args) w){ac:α->Array Y} {xs:List α} {D:Aj} (aW:TO F (n-1) P gf lb ac xs D w) (aT:∀x,(ac x).size=ps.size)(j:List α->Aj->E->Prop) (S:Aj) (al:∀k,S k->k<T (N w)) (hD:∀k,D k->k<T (N w)/\¬S k)(hI:∀c O A A',j c O A->zg (λk=>T (N w)<=k/\¬O k) A A'->j c O A')(h0:j [] S w) (a₁:α->Act)(aE:∀(l:Nat) (x:α) (W:E) (ah:Act->E->Prop),ah (a₁ x) W->assign.wpIn (F.inRound l) (n-1-1) P (Exit.then ah (λ_ _ _=>False)) { tmps:=(ps.zip (ac x)).foldl (λt (p,v)=>t.setIfInBounds p v) a.tmps,defers:=[] } W)(aG:∀(l:Nat) (c:List α) (O:Aj) (x:α) (W:E),T (N w)<=l->¬O l->(∃r,W.heap[l]?=I (.loop r))->j c O W->(c++[x]) <+: xs->body.wpIn (F.inRound l) (n-1-1) P (EM j (c++[x]) O W) (a₁ x) W)(aJ:∀(D:Nat) (O:Aj) (W:E),T (N w)<=D->¬O D->j xs O W->W.heap[D]?=I (.deferred (I []))->Q .normal { a with defers:={ target:=.collected D,args:=#[] }:: a.defers } W):(Code.rangeFunc g ps assign body).wpIn F n P Q a w:=by
 refine wpIn_rangeFunc ?_;intro fn aL;rw[aV];obtain⟨d,B⟩:∃d:LoopState->Loop,d=λst=>{ state:=st,pending:=U,fn,tmps:=a.tmps,params:=ps,assign,body,defers:=T (N w) }:=⟨_,rfl⟩
 obtain⟨i,X⟩:∃i,(dB w (.deferred (I []))).alloc (.loop (d .ready))=i:=⟨_,rfl⟩
 have hO:zke w i:=by rw[<-X];exact((zg.refl _ w).alloc _).alloc _
 have a4:T (N i)=T (N w)+1+1:=by rw[<-X];simp
 have aD:i.heap[T (N w)+1]?=I (.loop (d .ready)):=by rw[<-X];have:=World.alloc_heap_new (dB w (.deferred (I []))) (.loop (d .ready));rwa [Iu] at this
 have aB:i.heap[T (N w)]?=I (.deferred (I [])):=by rw[<-X];exact(Below.heap_alloc _ _ _ ov).trans (World.alloc_heap_new w _)
 refine⟨T (N w)+1,[{ target:=.collected (T (N w)),args:=#[] }],i,{ target:=.fn (.func gf) lb,args:=#[.func (.yield (T (N w)+1)) #[] #[]] },i,gf,
  #[.func (.yield (T (N w)+1)) #[] #[]]++lb,i,?_,?_,?_,?_,λ_=>h1,?_⟩
 rw[<-X,B];exact run_enterLoop_outer _ _ _ _ _
 .simp only[resolve,hg];simp[go_sem]
 intro f' an;simp[Target.leads] at an;subst an;exact aC
 .simp[invoke,go_sem,eg]
 have put:∀c b A o',j c b A->¬b (T (N w)+1)->j c b (A.putObj (T (N w)+1) o'):=λc b A o' y hn=>
  hI c b A _ y ((zg.refl _ A).putObj _ _ (.inl ⟨oa,hn⟩))
 refine(aW (T (N w)+1) (λc O W=>∃b:Aj,(∀k,O k↔b k\/k=T (N w)+1)/\¬b (T (N w)+1)/\¬b (T (N w))/\j c b W/\W.heap[T (N w)+1]?=I (.loop (d .ready))/\W.heap[T (N w)]?=I (.deferred (I []))) (λk=>S k\/k=T (N w)+1) i hO ?_ ?_ ?_ ?_
  ⟨S,λ_=>Iff.rfl,λh=>by have:=al _ h;omega,λh=>by have:=al _ h;omega,hI _ _ _ _ h0 (hO.mono (λ_ _ f=>f.elim)),aD,aB⟩).mono ?_
 grind
 grind
 rintro c O A A' ⟨b,u,s,L,y,z,hd⟩ hA;have lt:∀k o,A.heap[k]?=I o->k<T (N i)->A'.heap[k]?=I o:=λk o q ap=>(hA.block k (A1.1 q).1 (λm=>oa)).trans q;exact⟨b,u,s,L,hI c b A A' y (hA.mono (λk q m=>⟨oa,λh=>m.2 ((u k).2 (.inl h))⟩)),lt _ _ z oa,lt _ _ hd oa⟩
 .rintro c O x W ⟨b,u,s,L,y,z,hd⟩ aS;have ap:T (N w)+1<T (N W):=(A1.1 z).1;have hy:=run_yield (P:=P) (args:=ac x) z (by rw[B];exact aT x);rw[B] at hy;refine⟨fn,_,assign,body,hy,roundIn_of_wpIn aL (aE _ x W _ ⟨_,run_beginRound z (by rw[B]),?_⟩)⟩;have ao:(W.putObj (T (N w)+1) (.loop { d .ready with state:=.busy })).heap[T (N w)+1]?=I (.loop { d .ready with state:=.busy }):=World.putObj_heap_same ap;have aH:(W.putObj (T (N w)+1) (.loop { d .ready with state:=.busy })).heap[T (N w)]?=I (.deferred (I [])):=(dP oa).trans hd;have a3:(W.putObj (T (N w)+1) (.loop { d .ready with state:=.busy })).heap.size=T (N W):=(by simp[World.putObj]);have aP:zg O W (W.putObj (T (N w)+1) (.loop { d .ready with state:=.busy })):=(zg.refl _ W).putObj _ _ (.inl ((u _).2 (.inr rfl)));refine wpIn_mono (aG _ c b x _ oa s ⟨_,ao⟩ (put _ _ _ _ y s) aS) ?_;rintro e aa W3 m;cases e with
  |normal=>
   ((have⟨O2,aO,ar,am,aQ⟩:=m;have keep:∀k o,(W.putObj (T (N w)+1) (.loop { d .ready with state:=.busy })).heap[k]?=I o->¬b k->W3.heap[k]?=I o:=λk o q hn=>(am.block k (A1.1 q).1 hn).trans q;have af:=keep _ _ ao s;have aI:=keep _ _ aH L;have hr:=run_endRound (P:=P) U af;have aq:¬O2 (T (N w)+1):=λh=>by obtain h|h:=ar _ h;exact s h;rw[xP] at h;omega);have aR:¬O2 (T (N w)):=λh=>by obtain h|h:=ar _ h;exact L h;rw[xP] at h;omega);refine⟨_,_,hr,rfl,λk=>O2 k\/k=T (N w)+1,⟨O2,λ_=>Iff.rfl,aq,aR,put _ _ _ _ aO aq,?_,(dP oa).trans aI⟩,?_,(aP.trans (am.mono (λk _ h=>(u k).2 (.inl h)))).putObj _ _ (.inl ((u _).2 (.inr rfl))),λk q=>by
    rw[xP];obtain h|h:=q;exact aQ k h;rw[h];exact(A1.1 af).1⟩
   rw[World.putObj_heap_same (A1.1 af).1,B];rfl
   grind
  |ret=>exact m.elim
  |exit id=>exact m.elim
  |goto t=>exact m.elim
  |panic ch=>exact m.elim
  |outgrown=>exact m.elim
 rintro e W2 ⟨⟨v,rfl⟩,O',b,u,s,L,y,z,hd⟩;have he:=run_endLoop (P:=P) z (by rw[B];simp);refine⟨U,_,he.trans (by rw[B]),?_⟩;exact aJ _ b _ (AD _) L (put _ _ _ _ y s) ((dP oa).trans hd)
theorem zb5 {α:Type}{g:Operand}{ps:Array Tmp}{assign body:Code}{Q:Exit->Act->E->Prop}{a:Act}{w:E}(a4:F.round=U) (h1:1<=n) {gf:Nat} {lb:Array Y} (hg:a.eval g=.func (.func gf) #[] lb) (aJ:F.fn gf) (eg:∀args w,(callFunc gf args).run P w=.ok (.enter gf args) w){af:α->Array Y} {xs:List α} {D:Aj} (a5:TO F (n-1) P gf lb af xs D w) (a2:∀x,(af x).size=ps.size)(j:List α->Aj->E->Prop) (S:Aj) (ar:∀k,S k->k<dg w.heap) (hD:∀k,D k->k<dg w.heap/\¬S k)(hI:∀d O A A',j d O A->zg (λk=>dg w.heap<=k/\¬O k) A A'->j d O A')(h0:j [] S w) (Ax:α->Act->E->Prop) (aH:∀x a b l o o',Ax x a b->b.heap[l]?=I o->o.isCells=Z->Ax x a (b.putObj l o'))(aL:∀(l:Nat) (x:α) (W:E) (ao:Act->E->Prop),(∀y b,zke W b->Ax x y b->ao y b)->assign.wpIn (F.inRound l) (n-1-1) P (Exit.then ao (λ_ _ _=>False)) { tmps:=(ps.zip (af x)).foldl (λt (p,v)=>t.setIfInBounds p v) a.tmps,defers:=[] } W)(aO:∀(l:Nat) (d:List α) (O:Aj) (x:α) (y:Act) (W:E),dg w.heap<=l->¬O l->(∃r,W.heap[l]?=I (.loop r))->j d O W->(d++[x]) <+: xs->Ax x y W->body.wpIn (F.inRound l) (n-1-1) P (EM j (d++[x]) O W) y W)(aR:∀(D:Nat) (O:Aj) (W:E),dg w.heap<=D->¬O D->j xs O W->W.heap[D]?=I (.deferred (I []))->Q .normal { a with defers:={ target:=.collected D,args:=#[] }:: a.defers } W):(Code.rangeFunc g ps assign body).wpIn F n P Q a w:=by
 refine wpIn_rangeFunc ?_;intro fn aT;rw[a4];obtain⟨i,L⟩:∃i:LoopState->Loop,i=λst=>{ state:=st,pending:=U,fn,tmps:=a.tmps,params:=ps,assign,body,defers:=dg w.heap }:=⟨_,rfl⟩
 obtain⟨b,T⟩:∃b,(dB w (.deferred (I []))).alloc (.loop (i .ready))=b:=⟨_,rfl⟩
 have hO:zke w b:=by rw[<-T];exact((zg.refl _ w).alloc _).alloc _
 have bc:dg b.heap=dg w.heap+1+1:=by rw[<-T];simp
 have aK:b.heap[dg w.heap+1]?=I (.loop (i .ready)):=by rw[<-T];have:=World.alloc_heap_new (dB w (.deferred (I []))) (.loop (i .ready));rwa [Iu] at this
 have aI:b.heap[dg w.heap]?=I (.deferred (I [])):=by rw[<-T];exact(Below.heap_alloc _ _ _ ov).trans (World.alloc_heap_new w _)
 refine⟨dg w.heap+1,[{ target:=.collected w.heap.size,args:=#[] }],b,{ target:=.fn (.func gf) lb,args:=#[.func (.yield (dg w.heap+1)) #[] #[]] },b,gf,
  #[.func (.yield (dg w.heap+1)) #[] #[]]++lb,b,?_,?_,?_,?_,λ_=>h1,?_⟩
 rw[<-T,L];exact run_enterLoop_outer _ _ _ _ _
 .simp only[resolve,hg];simp[go_sem]
 intro f' aw;simp[Target.leads] at aw;subst aw;exact aJ
 .simp[invoke,go_sem,eg]
 have put:∀d c A o',j d c A->¬c (dg w.heap+1)->j d c (A.putObj (dg w.heap+1) o'):=λd c A o' z hn=>
  hI d c A _ z ((zg.refl _ A).putObj _ _ (.inl ⟨oa,hn⟩))
 refine(a5 (dg w.heap+1) (λd O W=>∃c:Aj,(∀k,O k↔c k\/k=dg w.heap+1)/\¬c (dg w.heap+1)/\¬c w.heap.size/\j d c W/\W.heap[dg w.heap+1]?=I (.loop (i .ready))/\W.heap[dg w.heap]?=I (.deferred (I []))) (λk=>S k\/k=dg w.heap+1) b hO ?_ ?_ ?_ ?_
  ⟨S,λ_=>Iff.rfl,λh=>by have:=ar _ h;omega,λh=>by have:=ar _ h;omega,hI _ _ _ _ h0 (hO.mono (λ_ _ f=>f.elim)),aK,aI⟩).mono ?_
 grind
 grind
 rintro d O A A' ⟨c,m,u,N,z,B,X⟩ hA;have lt:∀k o,A.heap[k]?=I o->k<dg b.heap->A'.heap[k]?=I o:=λk o s ay=>(hA.block k (A1.1 s).1 (λq=>oa)).trans s;exact⟨c,m,u,N,hI d c A A' z (hA.mono (λk s q=>⟨oa,λh=>q.2 ((m k).2 (.inl h))⟩)),lt _ _ B oa,lt _ _ X oa⟩
 .rintro d O x W0 ⟨c,m,u,N,aV,ak,av⟩ a1;have aY:dg w.heap+1<dg W0.heap:=(A1.1 ak).1;have hy:=run_yield (P:=P) (args:=af x) ak (by rw[L];exact a2 x);rw[L] at hy;refine⟨fn,_,assign,body,hy,roundIn_of_wpIn aT (aL _ x W0 _ (λy W aa aN=>?_))⟩;have B:=(aa.block _ aY id).trans ak;have X:=(aa.block _ (A1.1 av).1 id).trans av;have z:=hI _ _ _ _ aV (aa.mono (λ_ _ f=>f.elim));have ay:dg w.heap+1<dg W.heap:=(A1.1 B).1;refine⟨_,run_beginRound B (by rw[L]),?_⟩;have ax:(W.putObj (dg w.heap+1) (.loop { i .ready with state:=.busy })).heap[dg w.heap+1]?=I (.loop { i .ready with state:=.busy }):=World.putObj_heap_same ay;have aP:(W.putObj (dg w.heap+1) (.loop { i .ready with state:=.busy })).heap[dg w.heap]?=I (.deferred (I [])):=(dP oa).trans X;have aX:zg O W0 (W.putObj (dg w.heap+1) (.loop { i .ready with state:=.busy })):=(aa.mono (λ_ _ f=>f.elim)).putObj _ _ (.inl ((m _).2 (.inr rfl)));refine wpIn_mono (aO _ d c x y _ oa u ⟨_,ax⟩ (put _ _ _ _ z u) a1 (aH _ _ _ _ _ _ aN B rfl)) ?_;rintro e a3 W3 q;cases e with
  |normal=>
   ((have⟨O2,aW,an,au,aZ⟩:=q;have keep:∀k o,(W.putObj (dg w.heap+1) (.loop { i .ready with state:=.busy })).heap[k]?=I o->¬c k->W3.heap[k]?=I o:=λk o s hn=>(au.block k (A1.1 s).1 hn).trans s;have al:=keep _ _ ax u;have aQ:=keep _ _ aP N;have hr:=run_endRound (P:=P) U al;have az:¬O2 (dg w.heap+1):=λh=>by obtain h|h:=an _ h;exact u h;rw[xP] at h;omega);have a0:¬O2 w.heap.size:=λh=>by obtain h|h:=an _ h;exact N h;rw[xP] at h;omega);refine⟨_,_,hr,rfl,λk=>O2 k\/k=dg w.heap+1,⟨O2,λ_=>Iff.rfl,az,a0,put _ _ _ _ aW az,?_,(dP oa).trans aQ⟩,?_,(aX.trans (au.mono (λk _ h=>(m k).2 (.inl h)))).putObj _ _ (.inl ((m _).2 (.inr rfl))),λk s=>by
    rw[xP];obtain h|h:=s;exact aZ k h;rw[h];exact(A1.1 al).1⟩
   rw[World.putObj_heap_same (A1.1 al).1,L];rfl;rintro k (h|h);obtain h|h:=an k h;exact .inl ((m k).2 (.inl h));rw[xP] at h;exact .inr (AP aa.size h);exact .inl ((m k).2 (.inr h))
  |ret=>exact q.elim
  |exit id=>exact q.elim
  |goto t=>exact q.elim
  |panic ch=>exact q.elim
  |outgrown=>exact q.elim
 rintro e W2 ⟨⟨v,rfl⟩,O',c,m,u,N,z,B,X⟩;have he:=run_endLoop (P:=P) B (by rw[L];simp);refine⟨U,_,he.trans (by rw[L]),?_⟩;exact aR _ c _ (AD _) N (put _ _ _ _ z u) ((dP oa).trans X)
theorem zb6 {α:Type}{g:Operand}{ps:Array Tmp}{assign body:Code}{Q:Exit->Act->E->Prop}{a:Act}{w:E}{l₀:Nat} {r₀:Loop} (aQ:F.round=I l₀) (aK:w.heap[l₀]?=I (.loop r₀)) (h1:1<=n) {gf:Nat} {lb:Array Y} (hg:a.eval g=.func (.func gf) #[] lb) (ax:F.fn gf) (eg:∀args w,(callFunc gf args).run P w=.ok (.enter gf args) w){T:α->Array Y} {xs:List α} {D:Aj} (aR:TO F (n-1) P gf lb T xs D w) (aO:∀x,(T x).size=ps.size)(j:List α->Aj->E->Prop) (B:Aj) (az:∀k,B k->k<S (N w)) (hD:∀k,D k->k<S (N w)/\¬B k)(hI:∀b O A A',j b O A->zg (λk=>S (N w)<=k/\¬O k) A A'->j b O A')(h0:j [] B w) (a₁:α->Act)(aA:∀(l:Nat) (x:α) (W:E) (af:Act->E->Prop),af (a₁ x) W->assign.wpIn (F.inRound l) (n-1-1) P (Exit.then af (λ_ _ _=>False)) { tmps:=(ps.zip (T x)).foldl (λt (p,v)=>t.setIfInBounds p v) a.tmps,defers:=[] } W)(aB:∀(l:Nat) (b:List α) (O:Aj) (x:α) (W:E),S (N w)<=l->¬O l->(∃r,W.heap[l]?=I (.loop r))->j b O W->(b++[x]) <+: xs->body.wpIn (F.inRound l) (n-1-1) P (EM j (b++[x]) O W) (a₁ x) W)(aC:∀(O:Aj) (W:E),j xs O W->Q .normal a W):(Code.rangeFunc g ps assign body).wpIn F n P Q a w:=by
 refine wpIn_rangeFunc ?_;intro fn aE;rw[aQ];obtain⟨i,z⟩:∃i:LoopState->Loop,i=λst=>{ state:=st,pending:=U,fn,tmps:=a.tmps,params:=ps,assign,body,defers:=r₀.defers }:=⟨_,rfl⟩
 obtain⟨d,X⟩:∃d,dB w (.loop (i .ready))=d:=⟨_,rfl⟩
 have hO:zke w d:=by rw[<-X];exact(zg.refl _ w).alloc _
 have a0:S (N d)=S (N w)+1:=by rw[<-X];simp
 have ay:d.heap[S (N w)]?=I (.loop (i .ready)):=by rw[<-X];exact World.alloc_heap_new w _
 refine⟨S (N w),[],d,{ target:=.fn (.func gf) lb,args:=#[.func (.yield (S (N w))) #[] #[]] },d,gf,
  #[.func (.yield (S (N w))) #[] #[]]++lb,d,?_,?_,?_,?_,λ_=>h1,?_⟩
 rw[<-X,z];exact run_enterLoop_inner aK _ _ _ _ _
 .simp only[resolve,hg];simp[go_sem]
 intro f' ak;simp[Target.leads] at ak;subst ak;exact ax
 .simp[invoke,go_sem,eg]
 have put:∀b c A o',j b c A->¬c (S (N w))->j b c (A.putObj (S (N w)) o'):=λb c A o' u hn=>
  hI b c A _ u ((zg.refl _ A).putObj _ _ (.inl ⟨oa,hn⟩))
 refine(aR (S (N w)) (λb O W=>∃c:Aj,(∀k,O k↔c k\/k=S (N w))/\¬c (S (N w))/\j b c W/\W.heap[S (N w)]?=I (.loop (i .ready))) (λk=>B k\/k=S (N w)) d hO ?_ ?_ ?_ ?_
  ⟨B,λ_=>Iff.rfl,λh=>by have:=az _ h;omega,hI _ _ _ _ h0 (hO.mono (λ_ _ f=>f.elim)),ay⟩).mono ?_
 grind
 grind
 rintro b O A A' ⟨c,s,q,u,y⟩ hA;have lt:∀k o,A.heap[k]?=I o->k<S (N d)->A'.heap[k]?=I o:=λk o L al=>(hA.block k (A1.1 L).1 (λm=>oa)).trans L;exact⟨c,s,q,hI b c A A' u (hA.mono (λk L m=>⟨oa,λh=>m.2 ((s k).2 (.inl h))⟩)),lt _ _ y oa⟩
 .rintro b O x W ⟨c,s,q,u,y⟩ aN;have al:S (N w)<S (N W):=(A1.1 y).1;have hy:=run_yield (P:=P) (args:=T x) y (by rw[z];exact aO x);rw[z] at hy;refine⟨fn,_,assign,body,hy,roundIn_of_wpIn aE (aA _ x W _ ⟨_,run_beginRound y (by rw[z]),?_⟩)⟩;have ad:(W.putObj (S (N w)) (.loop { i .ready with state:=.busy })).heap[S (N w)]?=I (.loop { i .ready with state:=.busy }):=World.putObj_heap_same al;have aZ:(W.putObj (S (N w)) (.loop { i .ready with state:=.busy })).heap.size=S (N W):=(by simp[World.putObj]);have aI:zg O W (W.putObj (S (N w)) (.loop { i .ready with state:=.busy })):=(zg.refl _ W).putObj _ _ (.inl ((s _).2 (.inr rfl)));refine wpIn_mono (aB _ b c x _ oa q ⟨_,ad⟩ (put _ _ _ _ u q) aN) ?_;rintro e a3 W3 m;cases e with
  |normal=>
   (have⟨O2,aH,aS,aj,aJ⟩:=m;have ae:W3.heap[S (N w)]?=I (.loop { i .ready with state:=.busy }):=(aj.block _ (A1.1 ad).1 q).trans ad;have hr:=run_endRound (P:=P) U ae;have am:¬O2 (S (N w)):=λh=>by obtain h|h:=aS _ h;exact q h;rw[xP] at h;omega);refine⟨_,_,hr,rfl,λk=>O2 k\/k=S (N w),⟨O2,λ_=>Iff.rfl,am,put _ _ _ _ aH am,?_⟩,?_,(aI.trans (aj.mono (λk _ h=>(s k).2 (.inl h)))).putObj _ _ (.inl ((s _).2 (.inr rfl))),λk L=>by
    rw[xP];obtain h|h:=L;exact aJ k h;rw[h];exact(A1.1 ae).1⟩
   rw[World.putObj_heap_same (A1.1 ae).1,z];rfl
   grind
  |ret=>exact m.elim
  |exit id=>exact m.elim
  |goto t=>exact m.elim
  |panic ch=>exact m.elim
  |outgrown=>exact m.elim
 rintro e W2 ⟨⟨v,rfl⟩,O',c,s,q,u,y⟩;have he:=run_endLoop (P:=P) y (by rw[z];simp);exact⟨U,_,he.trans (by rw[z]),aC c _ (put _ _ _ _ u q)⟩
end
