/- The program's reader: its cells, and its smallest methods. -/
import Derived.Test.YtcgleficedipkaaGreatDoorProg
import Derived.Test.YtcgleficedipkaaGreatDoorYBaseSemD
import Derived.Lib.Bytealg
import Derived.Laws.Runes
import Derived.Laws.RangeString
import Derived.WalkMore
import Derived.LoopN
import Derived.Laws.RangeAny
namespace Go.Proofs.YtcgleficedipkaaGreatDoor
open Option renaming none->U,some->I
open Value renaming int->M,slice->K,bool->C,pointer->Ua,string->Uc,iface->Ud,tuple->Ue,nilIface->Ui
open IntKind renaming i64->J,i32->Ug
open Bool renaming false->Z,true->G
open _root_.Go.Proofs.Tryz renaming prog->V
open Go renaming World->E,Value->Y,Calls->Uh
open Go.RowKit renaming Hid->H
open Or renaming inr->O,inl->Q
open Ending renaming returned->R
open And renaming intro->Ur
open _root_.Go.Proofs.Tryz
variable (b:Nat){L:List (Int×Int)}(n:Nat)(T dp:Int)(a:Nat->Addr)(word s:ByteArray){k f i d:Nat}{v c:Int}(r:Int)(w:World){l:World}{x y z:Ending}
section
open Go.RowKit
set_option maxHeartbeats 400000
def LetRow (w:E)(g:Nat)(L:List (Int×Int)):Prop:=∀(j:Nat) (p:Int×Int),L[j]?=I p->w.cell? ⟨g,j*2,U⟩=I (M J p.1)/\w.cell? ⟨g,j*2+1,U⟩=I (M Ug p.2)
structure yh (w:E)(b:Nat)(L:List (Int×Int))(n:Nat)(len dp:Int):Prop where
 c0:(∃g cap,w.cell? ⟨b,0,U⟩=I (K (I ⟨g,0,U⟩) L.length cap)/\L.length<=cap/\g<b/\LetRow w g L)\/(L=[]/\w.cell? ⟨b,0,U⟩=I (K U 0 0))
 c1:w.cell? ⟨b,1,U⟩=I (M J n)
 c2:w.cell? ⟨b,2,U⟩=I (M J len)
 c3:w.cell? ⟨b,3,U⟩=I (M J dp)
 f1:w.frozen? ⟨b,1,U⟩=Z
 f3:w.frozen? ⟨b,3,U⟩=Z
theorem LetRow.keep {P:Nat->Prop}{w l:E}{g:Nat}{L:List (Int×Int)}(h:LetRow w g L)(k:zf P w l)(b:¬P g):LetRow l g L:=λj p a=>
 ⟨(k.cell (zgF w _ (h j p a).1) b).trans (h j p a).1,(k.cell (zgF w _ (h j p a).2) b).trans (h j p a).2⟩
theorem yh.lt {w:E}{b:Nat}{L:List (Int×Int)}{n:Nat}{T dp:Int}(h:yh w b L n T dp):b<w.heap.size:=zgF w ⟨b,1,U⟩ h.c1
theorem yh.keep {P:Nat->Prop}{w l:E}{b:Nat}{L:List (Int×Int)}{n:Nat}{T dp:Int}(h:yh w b L n T dp)(k:zf P w l)(a:¬P b)(r:∀g,g<b->¬P g):yh l b L n T dp:=by have c:=h.lt;obtain⟨d,c1,f,i,f1,o⟩:=h;refine⟨?_,(k.cell (p:=⟨b,1,U⟩) c a).trans c1,(k.cell (p:=⟨b,2,U⟩) c a).trans f,(k.cell (p:=⟨b,3,U⟩) c a).trans i,(k.frozen (p:=⟨b,1,U⟩) c a).trans f1,(k.frozen (p:=⟨b,3,U⟩) c a).trans o⟩;rcases d with⟨g,m,d,q,e,t⟩|⟨rfl,d⟩;refine Q ⟨g,m,(k.cell (p:=⟨b,0,U⟩) c a).trans d,q,e,?_⟩;intro j p s;exact t.keep k (r g e) j p s;exact O ⟨rfl,(k.cell (p:=⟨b,0,U⟩) c a).trans d⟩
theorem yh.drewN {w:E}{b:Nat}{L:List (Int×Int)}{n:Nat}{T dp:Int}(h:yh w b L n T dp)(q:Nat):yh (w.drewN q) b L n T dp:=
 h.keep ((zf.refl (λ_=>False) w).drewN q) id (λ_ _ f=>f)
theorem yh.setN {w:E}{b:Nat}{L:List (Int×Int)}{n:Nat}{T dp:Int}(h:yh w b L n T dp)(m:Nat)(j:Int)(k:j=(m:Int)):yh (w.setCell ⟨b,1,U⟩ (M J j)) b L m T dp:=by subst k;obtain⟨a,c1,c,d,f1,f⟩:=h;refine⟨?_,zgL _ _ _ c1,(zgI _ _ _ _ ov).trans c,(zgI _ _ _ _ ov).trans d,(zk _ _ _ _).trans f1,(zk _ _ _ _).trans f⟩;rcases a with⟨g,e,a,i,l,o⟩|⟨rfl,a⟩;exact Q ⟨g,e,(zgI _ _ _ _ ov).trans a,i,l,o.keep ((zf.refl (zt b) w).mine 1 _) (by unfold zt;omega)⟩;exact O ⟨rfl,(zgI _ _ _ _ ov).trans a⟩
namespace Pro
def zj (L:List (Int×Int))(k:Nat):Int:=match L[k]? with
 |some p=>p.2
 |none=>-1
def zC (L:List (Int×Int))(T:Int)(k:Nat):Int:=match L[k]? with
 |some p=>p.1
 |none=>T
theorem KP (h:k<L.length):zj L k=L[k].2:=by unfold zj;rw[zgE h]
theorem xZ (h:L.length<=k):zj L k = -1:=by unfold zj;rw[zhv h]
variable {T}
theorem zdw (h:k<L.length):zC L T k=L[k].1:=by unfold zC;rw[zgE h]
theorem wU (h:L.length<=k):zC L T k=T:=by unfold zC;rw[zhv h]
def kZ (L:List (Int×Int))(n:Nat)(word:ByteArray):Nat->Nat->Bool
 |0,_=>G
 |f+1,i=>if zj L (n+i)=zd word i then kZ L n word f (i+1) else Z
def zE (L:List (Int×Int))(n:Nat)(word:ByteArray):Bool:=kZ L n word word.size 0
end Pro
theorem qh {k:IntKind}{a b:Int}(h:a=b):Ending.returned (M k a)=R (M k b):=by rw[h]
variable (L k)
theorem Xh (h:yh w b L n T dp)(o:L.length<=400)(r:n<=1000)(q:k<=1000):Uh V 159 #[Ua (I ⟨b,0,U⟩),M J k] w λx l=>x=R (M Ug (Pro.zj L (n+k)))/\l=w:=by
 obtain⟨c,c1,f,i,f1,m⟩:=h;rcases c with⟨g,j,c,p,_,d⟩|⟨rfl,c⟩
 .by_cases e:n+k<L.length
  .obtain⟨s,t⟩:=d (n+k) L[n+k] (zgE e);have a:H (Pro.zj L (n+k)=L[n+k].2):=Pro.KP e;clear d;go_enter func159,ntmps159;go_wp2;go_ret;exact⟨qh a.out.symm,rfl⟩
  have a:H (Pro.zj L (n+k) = -1):=Pro.xZ oa;clear d;go_enter func159,ntmps159;go_wp2;go_ret;exact⟨qh a.out.symm,rfl⟩
 have a:H (Pro.zj [] (n+k) = -1):=Pro.xZ ov;go_enter func159,ntmps159;go_wp2;go_ret;exact⟨qh a.out.symm,rfl⟩
theorem jp (h:yh w b L n T dp)(d:L.length<=400)(f:n<=1000):Uh V 157 #[Ua (I ⟨b,0,U⟩)] w λx l=>x=R (M Ug (Pro.zj L n))/\l=w:=by have c:=ze h;clear h;go_enter func157,ntmps157;go_wp2_with fail;refine(Xh b L n T dp 0 _ c d f oa).mono ?_;rintro e i ⟨rfl,a⟩;have g:=a.symm;subst g;clear a;go_wp2_with fail;go_ret;exact⟨rfl,rfl⟩
theorem vd (h:yh w b L n T dp):Uh V 63 #[Ua (I ⟨b,0,U⟩)] w λx l=>x=R (C ((n:Int) == (L.length:Int)))/\∃q,l=w.drewN q:=by
 obtain⟨a,c1,d,e,f1,i⟩:=h;rcases a with⟨g,f,a,j,_,c⟩|⟨rfl,a⟩
 .clear c;go_enter func63,ntmps63;go_wp2;go_quiet(fail);go_wp2;go_ret;exact⟨rfl,_,rfl⟩
 go_enter func63,ntmps63;go_wp2;go_quiet(fail);go_wp2;go_ret;exact⟨rfl,_,rfl⟩
variable (c)
theorem xw:Uh V 286 #[M Ug c] w λx l=>x=R (C (decide (48<=c) && decide (c<=57)))/\l=w:=by
 by_cases a:48<=c
 .by_cases b:c<=57
  .go_enter func286,ntmps286;go_wp2;go_ret;exact⟨by simp[a,b],rfl⟩
  go_enter func286,ntmps286;go_wp2;go_ret;exact⟨by simp;omega,rfl⟩
 go_enter func286,ntmps286;go_wp2;go_ret;exact⟨by simp;try omega,rfl⟩
theorem Wa (h:yh w b L n T dp)(u:L.length<=400)(o:n<=L.length):Uh V 114 #[Ua (I ⟨b,0,U⟩)] w λx l=>x=R (M J (Pro.zC L T n))/\∃q,l=w.drewN q:=by
 have c:=ze h;obtain⟨d,c1,p,r,f1,t⟩:=h;rcases d with⟨g,s,d,v,_,i⟩|⟨rfl,d⟩
 .by_cases j:n<L.length
  .obtain⟨y,z⟩:=i n L[n] (zgE j);have a:H (Pro.zC L T n=L[n].1):=Pro.zdw j;have f:((n:Int) == (L.length:Int))=Z:=ou;clear i;go_enter func114,ntmps114;go_wp2_with fail;refine(vd b L n T dp _ c).mono ?_;rintro e m ⟨rfl,q,rfl⟩;go_wp2_with fail;go_quiet(fail);go_wp2_with fail;go_ret;exact⟨qh a.out.symm,_,by rw[zh8]⟩
  have a:H (Pro.zC L T n=T):=Pro.wU oa;have f:((n:Int) == (L.length:Int))=G:=ou;clear i;go_enter func114,ntmps114;go_wp2_with fail;refine(vd b L n T dp _ c).mono ?_;rintro e m ⟨rfl,q,rfl⟩;go_wp2_with fail;go_ret;exact⟨qh a.out.symm,_,rfl⟩
 have k:n=0:=by simpa using o
 have a:H (Pro.zC [] T n=T):=Pro.wU ov;have f:((n:Int) == ((([]:List (Int×Int)).length:Nat):Int))=G:=by simp[k]
 clear k;go_enter func114,ntmps114;go_wp2_with fail;refine(vd b [] n T dp _ c).mono ?_;rintro e m ⟨rfl,q,rfl⟩;rw[f];go_wp2_with fail;go_ret;exact⟨qh a.out.symm,_,rfl⟩
set_option maxHeartbeats 800000
theorem ZA (a:k<s.size)(i:Int)(b:i=(k:Int))(w:E):(Instr.index 9 (Uc s) (M J i)).run V w=.ok (M .u8 (zd s k)) w:=by subst b;rw[run_index_string w 9 s J (k:Int) underlying9,yZ s k a];simp[a]
namespace Pro
def behind (L:List (Int×Int))(n:Nat)(word:ByteArray):Nat:=if zE L n word=G then n+word.size else n
variable {L n word}
theorem XS (h:zE L n word=G):behind L n word=n+word.size:=by unfold behind;rw[IN h]
theorem Ja (h:zE L n word=Z):behind L n word=n:=by unfold behind;rw[iN (by simp[h])]
theorem zdx (h:zj L (n+i)=zd word i):kZ L n word (f+1) i=kZ L n word f (i+1):=by simp only[kZ];rw[IN h]
theorem zfK (h:¬zj L (n+i)=zd word i):kZ L n word (f+1) i=Z:=by simp only[kZ];rw[iN h]
end Pro
theorem take_all (h:yh w b L n T dp)(i:L.length<=400)(j:n<=1000)(P:word.size<=10):Uh V 113 #[Ua (I ⟨b,0,U⟩),Uc word] w λx l=>(Pro.zE L n word=G/\x=R (C G)/\∃q,l=(w.drewN q).setCell ⟨b,1,U⟩ (M J ((n+word.size:Nat):Int)))\/(Pro.zE L n word=Z/\x=R (C Z)/\∃q,l=w.drewN q):=by
 have d:=ze h;clear h;go_enter func113,ntmps113;go_wp2_with fail;go_loopw[8] (λc wr=>∃(k q:Nat),c=M J k/\k<=word.size/\wr=w.drewN q/\H (Pro.zE L n word=Pro.kZ L n word (word.size-k) k)) (λc _=>word.size-(intOf c).toNat);exact⟨0,0,rfl,oa,rfl,rfl⟩;obtain⟨k,q,rfl,N,rfl,g⟩:=hrel;by_cases r:k<word.size
 .have F:∀f,(Instr.index 9 (Uc word) (M J (k:Int))).run V f=.ok (M .u8 (zd word k)) f:=λf=>ZA word k r _ rfl f;have y:=jw word k;have z:=xj word k;have B:IntKind.i32.wrap (zd word k)=zd word k:=(by simp[IntKind.wrap,IntKind.bits,IntKind.signed];omega);by_cases a:Pro.zj L (n+k)=zd word k
  .have p:(Pro.zj L (n+k) != zd word k)=Z:=(by simp[a]);have HG:H (Pro.zE L n word=Pro.kZ L n word (word.size-(k+1)) (k+1)):=(by rw[zb g,show word.size-k=(word.size-(k+1))+1 by omega];exact Pro.zdx a);clear a;go_wp2_with fail;go_quiet((go_at_call 159;exact(Xh b L n T dp k _ (by first|exact d.drewN _|exact d) i j oa).mono (by rintro e s ⟨rfl,rfl⟩;exact⟨rfl,_,rfl⟩)));go_wp2_with fail;go_roundw
   .exact⟨k+1,_,by go_num,oa,rfl,HG⟩
   simp[intOf];omega
  have p:(Pro.zj L (n+k) != zd word k)=G:=(by simp[a]);have HG:H (Pro.zE L n word=Z):=(by rw[zb g,show word.size-k=(word.size-(k+1))+1 by omega];exact Pro.zfK a);clear a;go_wp2_with fail;go_quiet((go_at_call 159;exact(Xh b L n T dp k _ (by first|exact d.drewN _|exact d) i j oa).mono (by rintro e s ⟨rfl,rfl⟩;exact⟨rfl,_,rfl⟩)));go_wp2_with fail;go_ret;exact O ⟨HG,rfl,by first|exact⟨_,rfl⟩|exact⟨_,by rw[zh8]⟩⟩
 have HG:H (Pro.zE L n word=G):=(by rw[zb g,show word.size-k=0 by omega];rfl);have o:=zb d;obtain⟨m,c1,t,u,f1,v⟩:=o;clear m;go_wp2_with fail;go_ret;exact Q ⟨HG,rfl,q,ov⟩
theorem ZY (h:yh w b L n T dp)(c:L.length<=400)(f:n<=1000)(g:word.size<=10)(d:Pro.zE L n word=Z):Uh V 113 #[Ua (I ⟨b,0,U⟩),Uc word] w λx l=>x=R (C Z)/\∃q,l=w.drewN q:=
 (take_all b L n T dp word w h c f g).mono (by
  rintro e i (⟨a,_⟩|⟨_,a⟩);rw[d] at a;cases a;exact a)
theorem jM (h:yh w b L n T dp)(c:L.length<=400)(f:n<=1000)(g:word.size<=10)(d:Pro.zE L n word=G):Uh V 113 #[Ua (I ⟨b,0,U⟩),Uc word] w λx l=>x=R (C G)/\yh l b L (n+word.size) T dp/\zf (zt b) w l:=
 (take_all b L n T dp word w h c f g).mono (by
  rintro e i (⟨_,rfl,q,rfl⟩|⟨a,_⟩);exact⟨rfl,(h.drewN q).setN _ _ rfl,((zf.refl _ _).drewN q).mine _ _⟩;rw[d] at a;cases a)
theorem zbG (h:yh w b L n T dp)(a:L.length<=400)(c:n<=1000)(d:word.size<=10):Uh V 113 #[Ua (I ⟨b,0,U⟩),Uc word] w λx l=>x=R (C (Pro.zE L n word))/\yh l b L (Pro.behind L n word) T dp/\zf (zt b) w l:=by cases hm:Pro.zE L n word;rw[Pro.Ja hm];exact(ZY b L n T dp word w h a c d hm).mono (by rintro e f ⟨rfl,q,rfl⟩;exact⟨rfl,h.drewN q,(zf.refl _ _).drewN q⟩);rw[Pro.XS hm];exact jM b L n T dp word w h a c d hm
namespace Pro
def hexV (b:Int):Int:=if 48<=b/\b<=57 then b-48 else if 97<=b/\b<=102 then b-87 else if 65<=b/\b<=70 then b-55 else -1
def hexN (b:Int):Int:=if hexV b<0 then 0 else hexV b
def ZZ (b:Int):Bool:=decide (0<=hexV b)
end Pro
theorem XT {k:IntKind}{a b:Int}{c d:Bool}(h:a=b)(g:c=d):Ending.returned (Ue #[M k a,C c])=R (Ue #[M k b,C d]):=by rw[h,g]
theorem vO (q:-1<=c)(r:c<=1114111):Uh V 299 #[M Ug c] w λx l=>x=R (Ue #[M Ug (Pro.hexN c),C (Pro.ZZ c)])/\l=w:=by
 have d:(decide (48<=c) && decide (c<=57))=G\/((decide (48<=c) && decide (c<=57))=Z/\¬(48<=c/\c<=57)):=by grind
 rcases d with d|⟨d,g⟩
 .have o:48<=c/\c<=57:=by simpa using d
  have a:H (Pro.hexN c=c-48/\Pro.ZZ c=G):=by have e:Pro.hexV c=c-48:=(by unfold Pro.hexV;rw[IN o]);exact⟨by unfold Pro.hexN;rw[e,iN oa],by unfold Pro.ZZ;rw[e];simp;omega⟩
  go_enter func299,ntmps299;go_wp2_with fail;refine(xw c _).mono ?_;rintro e j ⟨rfl,b⟩;have h:=b.symm;subst h;clear b;rw[d];go_wp2_with fail;go_ret2;rw[a.out.1,a.out.2];exact⟨XT (by first|rfl|omega) rfl,rfl⟩
 by_cases f:97<=c/\c<=102
 ·(have a:H (Pro.hexN c=c-97+10/\Pro.ZZ c=G):=by have e:Pro.hexV c=c-87:=(by unfold Pro.hexV;rw[iN g,IN f]);exact⟨by unfold Pro.hexN;rw[e,iN oa];omega,by unfold Pro.ZZ;rw[e];simp;omega⟩);obtain⟨m,n⟩:=f;clear g;go_enter func299,ntmps299;go_wp2_with fail;refine(xw c _).mono ?_;rintro e j ⟨rfl,b⟩;have h:=b.symm;subst h;clear b;rw[d];go_wp2_with fail;go_ret2;rw[a.out.1,a.out.2];exact⟨XT (by first|rfl|omega) rfl,rfl⟩
 by_cases i:65<=c/\c<=70
 ·(have a:H (Pro.hexN c=c-65+10/\Pro.ZZ c=G):=by have e:Pro.hexV c=c-55:=(by unfold Pro.hexV;rw[iN g,iN f,IN i]);exact⟨by unfold Pro.hexN;rw[e,iN oa];omega,by unfold Pro.ZZ;rw[e];simp;omega⟩);obtain⟨m,n⟩:=i;have p:¬97<=c:=oa;clear g f;go_enter func299,ntmps299;go_wp2_with fail;refine(xw c _).mono ?_;rintro e j ⟨rfl,b⟩;have h:=b.symm;subst h;clear b;rw[d];go_wp2_with fail;go_ret2;rw[a.out.1,a.out.2];exact⟨XT (by first|rfl|omega) rfl,rfl⟩
 (have a:H (Pro.hexN c=0/\Pro.ZZ c=Z):=by have e:Pro.hexV c = -1:=(by unfold Pro.hexV;rw[iN g,iN f,iN i]);exact⟨by unfold Pro.hexN;rw[e];rfl,by unfold Pro.ZZ;rw[e];rfl⟩);have k:=ze (Ur g (Ur f i));clear g f i;go_enter func299,ntmps299;go_wp2_with fail;refine(xw c _).mono ?_;rintro e j ⟨rfl,b⟩;have h:=b.symm;subst h;clear b;rw[d];go_wp2_with fail
 all_goals first
  |(exfalso;have:=zb k;omega)
  |skip
 all_goals
  go_ret2;rw[a.out.1,a.out.2];exact⟨rfl,rfl⟩
def zN (w:E)(base:Nat)(v:Y)(kind:Y)(p:Int):Prop:=∃g,base<=g/\v=Ud 122 (Ua (I ⟨g,0,U⟩))/\w.cell? ⟨g,0,U⟩=I kind/\w.cell? ⟨g,1,U⟩=I (M J p)
theorem zN.keep {P:Nat->Prop}{w l:E}{base:Nat}{v d:Y}{p:Int}(h:zN w base v d p)(k:zf P w l)(c:∀g,base<=g->¬P g):zN l base v d p:=by obtain⟨g,a,rfl,b,c1⟩:=h;exact⟨g,a,rfl,(k.cell (zgF w _ b) (c g a)).trans b,(k.cell (zgF w _ c1) (c g a)).trans c1⟩
theorem zN.base {w:E}{base base':Nat}{v a:Y}{p:Int}(h:zN w base v a p)(b:base'<=base):zN w base' v a p:=by obtain⟨g,c,rest⟩:=h;exact⟨g,oa,rest⟩
theorem jg (T:TypeId)(x:Y)(p:Int)(w:E):Uh V 45 #[Ud T x,M J p] w λe l=>∃v,e=R v/\zN l w.heap.size v (Ud T x) p/\ziE w l:=by go_enter func45,ntmps45;go_wp2;go_ret;exact⟨_,rfl,⟨_,by first|exact zgH _|simp,rfl,by first|(rw[zie _ _ _ _ rfl];rfl),by first|(rw[zie _ _ _ _ rfl];rfl)⟩,(zf.refl _ _).alloc _⟩
theorem zfL (h:yh w b L n T dp)(g:L.length<=400)(i:n<=L.length)(a:TypeId)(f:Y)(m:w.cell? ⟨10,0,U⟩=I (Ud a f)):Uh V 64 #[Ua (I ⟨b,0,U⟩)] w λx l=>∃v,x=R v/\zN l w.heap.size v (Ud a f) (Pro.zC L T n)/\ziE w l:=by
 have c:=ze h;clear h;go_enter func64,ntmps64;go_wp2_with fail;go_region_with(first
  |(go_at_call 114;refine(Wa b L n T dp _ (by first|exact c|exact c.drewN _) g i).mono ?_;rintro e k ⟨rfl,q,rfl⟩)
  |(go_at_call 45;refine(jg _ _ _ _).mono ?_;rintro e k ⟨v,rfl,j,d⟩))
 all_goals go_wp2_with fail
 all_goals go_ret
 all_goals exact⟨v,rfl,j,by first|exact((zf.refl _ _).drewN _).trans d|exact(((zf.refl _ _).drewN _).drewN _).trans d⟩
def yj (a:Nat->Addr)(k:Nat):Y:=Ud 428 (Ua (I (a k)))
structure yt (w:E)(a:Nat->Addr):Prop where
 s1:w.cell? ⟨1,0,U⟩=I (yj a 1)
 s2:w.cell? ⟨2,0,U⟩=I (yj a 2)
 s3:w.cell? ⟨10,0,U⟩=I (yj a 3)
 s4:w.cell? ⟨3,0,U⟩=I (yj a 4)
 s5:w.cell? ⟨4,0,U⟩=I (yj a 5)
 s6:w.cell? ⟨5,0,U⟩=I (yj a 6)
 s7:w.cell? ⟨6,0,U⟩=I (yj a 7)
 s8:w.cell? ⟨7,0,U⟩=I (yj a 8)
theorem yt.keep {P:Nat->Prop}{w l:E}{a:Nat->Addr}(h:yt w a)(k:zf P w l)(e:∀j,j<11->¬P j):yt l a:=
 have c:∀j v,w.cell? ⟨j,0,U⟩=I v->j<11->l.cell? ⟨j,0,U⟩=I v:=λj v b d=>(k.cell (p:=⟨j,0,U⟩) (zgF w ⟨j,0,U⟩ b) (e j d)).trans b
 ⟨c _ _ h.s1 od,c _ _ h.s2 od,c _ _ h.s3 od,c _ _ h.s4 od,c _ _ h.s5 od,c _ _ h.s6 od,c _ _ h.s7 od,c _ _ h.s8 od⟩
theorem vx (h:yh w b L n T dp)(d:yt w a)(c:L.length<=400)(e:n<=L.length):Uh V 64 #[Ua (I ⟨b,0,U⟩)] w λx l=>∃v,x=R v/\zN l w.heap.size v (yj a 3) (Pro.zC L T n)/\ziE w l:=
 zfL b L n T dp w h c e _ _ d.s3
theorem zN.form {w:E}{base:Nat}{v a:Y}{p:Int}(h:zN w base v a p):∃g,v=Ud 122 (Ua (I ⟨g,0,U⟩)):=⟨h.choose,h.choose_spec.2.1⟩
theorem zero_any (h:yh w b L n T dp)(j:yt w a)(g:L.length<=400)(o:n<=L.length):Uh V 281 #[Ua (I ⟨b,0,U⟩)] w λx l=>ziE w l/\(((decide (48<=Pro.zj L n) && decide (Pro.zj L n<=57))=Z/\x=R (Ue #[M Ug 0,Ui]))\/ ((decide (48<=Pro.zj L n) && decide (Pro.zj L n<=57))=G/\∃v,x=R (Ue #[M Ug 0,v])/\zN l w.heap.size v (yj a 3) (Pro.zC L T n))):=by
 have f:=ze h;have k:=ze j;clear h j;cases hd:(decide (48<=Pro.zj L n) && decide (Pro.zj L n<=57))
 .go_enter func281,ntmps281;go_wp2_with fail;refine(jp b L n T dp _ f g oa).mono ?_;rintro e i ⟨rfl,c⟩;have d:=c.symm;subst d;clear c;go_wp2_with fail;refine(xw _ _).mono ?_;rintro e i ⟨rfl,c⟩;have d:=c.symm;subst d;clear c;rw[hd];go_wp2_with fail;go_ret2;exact⟨zf.refl _ _,Q ⟨trivial,rfl⟩⟩
 go_enter func281,ntmps281;go_wp2_with fail;refine(jp b L n T dp _ f g oa).mono ?_;rintro e i ⟨rfl,c⟩;have d:=c.symm;subst d;clear c;go_wp2_with fail;refine(xw _ _).mono ?_;rintro e i ⟨rfl,c⟩;have d:=c.symm;subst d;clear c;rw[hd];go_wp2_with fail;refine(vx b L n T dp a _ f k g o).mono ?_;rintro e q ⟨v,rfl,p,m⟩;go_wp2_with fail;go_ret2;exact⟨m,O ⟨trivial,v,rfl,p⟩⟩
namespace Pro
structure Out where
 k:Nat
 p:Int
 v:Int
 n:Nat
def bad (k:Nat)(p:Int)(n:Nat):Out:=⟨k,p,0,n⟩
def good (v:Int)(n:Nat):Out:=⟨0,0,v,n⟩
def Fit (L:List (Int×Int)):Prop:=∀k,-1<=zj L k/\zj L k<=1114111
def dig (c:Int):Bool:=decide (48<=c) && decide (c<=57)
def vJ (L:List (Int×Int))(T:Int)(n:Nat):Out:=if dig (zj L n)=G then bad 3 (zC L T n) n else good 0 n
abbrev letter (c:Int):Prop:=(97<=c/\c<=122)\/(65<=c/\c<=90)
def xN (L:List (Int×Int))(T:Int)(n:Nat):Out:=if letter (zj L n) then good (zj L n % 32) (n+1) else bad 3 (zC L T n) n
def yF (L:List (Int×Int))(T:Int):Nat->Int->Nat->Out
 |0,c,n=>good c n
 |f+1,c,n=>if hexV (zj L n)<0 then bad 3 (zC L T n) n else yF L T f (16*c+hexV (zj L n)) (n+1)
def xH (L:List (Int×Int))(T:Int):Nat->Int->Nat->Nat->Out
 |0,c,_,n=>good c n
 |f+1,c,d,n=>
  if 0<d/\zj L n=125 then good c (n+1)
  else if hexV (zj L n)<0\/1114111<16*c+hexV (zj L n) then bad 3 (zC L T n) n
  else xH L T f (16*c+hexV (zj L n)) (d+1) (n+1)
def ku (L:List (Int×Int))(T:Int)(n:Nat):Out:=xH L T (L.length+1-n) 0 0 n
def j6 (L:List (Int×Int))(T:Int)(n:Nat):Int:=if zj L n=92/\zj L (n+1)=117/\(yF L T 4 0 (n+2)).k=0/\56320<=(yF L T 4 0 (n+2)).v/\(yF L T 4 0 (n+2)).v<=57343 then(yF L T 4 0 (n+2)).v else -1
def ym (L:List (Int×Int))(T:Int)(n:Nat):Out:=
 if(yF L T 4 0 n).k≠0\/(yF L T 4 0 n).v<55296\/56319<(yF L T 4 0 n).v then yF L T 4 0 n
 else if 0<=j6 L T (yF L T 4 0 n).n then good (65536+((yF L T 4 0 n).v-55296)*1024+(j6 L T (yF L T 4 0 n).n-56320)) ((yF L T 4 0 n).n+6)
 else yF L T 4 0 n
def ctlV (b:Int):Int:=if b=116 then 9 else if b=110 then 10 else if b=118 then 11 else if b=102 then 12 else if b=114 then 13 else -1
def sign (b:Int):Bool:=[94,36,92,46,42,43,63,40,41,91,93,123,125,124,47].any λc=>decide (c=b)
def kB (b:Int):Bool:=decide (0<=ctlV b) ||sign b
def vD (b:Int):Int:=if 0<=ctlV b then ctlV b else b
def vE (L:List (Int×Int))(T:Int)(n:Nat):Out:=
 if kB (zj L n)=G then good (vD (zj L n)) (n+1)
 else if zj L n=48 then vJ L T (n+1)
 else if zj L n=99 then xN L T (n+1)
 else if zj L n=120 then yF L T 2 0 (n+1)
 else if zj L n=117/\zj L (n+1)=123 then ku L T (n+2)
 else if zj L n=117 then ym L T (n+1)
 else bad 3 (zC L T n) n
def jj (b:Int):Bool:=[100,68,119,87,115,83].any λc=>decide (c=b)
def backB (b:Int):Bool:=[49,50,51,52,53,54,55,56,57,107,112,80].any λc=>decide (c=b)
def xO (L:List (Int×Int))(T:Int)(n:Nat):Out:=
 if jj (zj L (n+1))=G then good (zj L (n+1)) (n+2)
 else if backB (zj L (n+1))=G then bad 6 (zC L T n) (n+1)
 else vE L T (n+1)
def zp (L:List (Int×Int))(T:Int)(n:Nat):Out:=
 if zj L n=92/\zj L (n+1)=98 then good 8 (n+2)
 else if zj L n=92/\zj L (n+1)=45 then good 45 (n+2)
 else if zj L n=92 then xO L T n
 else good (zj L n) (n+1)
def many (L:List (Int×Int))(n:Nat):Bool:=decide (zj L n=92) && jj (zj L (n+1))
def jN (L:List (Int×Int))(n:Nat):Bool:=decide (zj L n=45) && decide (zj L (n+1)≠93) && decide (zj L (n+1)≠-1)
def xU (L:List (Int×Int))(T:Int)(m:Bool)(first:Int)(n:Nat):Out:=
 if(zp L T (n+1)).k≠0 then zp L T (n+1)
 else if m=G\/many L (n+1)=G\/(zp L T (n+1)).v<first then bad 4 (zC L T n) (zp L T (n+1)).n
 else zp L T (n+1)
def qD (L:List (Int×Int))(T:Int)(n:Nat):Out:=
 if(zp L T n).k≠0 then zp L T n
 else if jN L (zp L T n).n=G then xU L T (many L n) (zp L T n).v (zp L T n).n
 else zp L T n
def qS (L:List (Int×Int))(T:Int):Nat->Nat->Out
 |0,n=>good 1 n
 |f+1,n=>
  if zj L n=93 then good 1 (n+1)
  else if L.length<=n then bad 3 T n
  else if(qD L T n).k≠0 then qD L T n
  else qS L T f (qD L T n).n
def qy (L:List (Int×Int))(T:Int)(n:Nat):Out:=qS L T (L.length+1-n) (if zj L (n+1)=94 then n+2 else n+1)
def countL (L:List (Int×Int)):Nat->Int->Nat->Int×Nat
 |0,c,n=>(c,n)
 |f+1,c,n=>if dig (zj L n)=G then countL L f (min (c*10+(zj L n-48)) 101) (n+1) else(c,n)
def countP (L:List (Int×Int))(n:Nat):Int×Nat:=countL L (L.length+1-n) 0 n
def yx (L:List (Int×Int))(T:Int)(n:Nat):Out:=
 if dig (zj L n)=Z then bad 3 (zC L T n) n
 else if 100<(countP L n).1 then bad 5 (zC L T n) (countP L n).2
 else good (countP L n).1 (countP L n).2
def yi (L:List (Int×Int))(T:Int)(n:Nat):Out×Int:=
 let a:=yx L T (n+1)
 if a.k≠0 then(a,0)
 else if zj L a.n=125 then(good a.v (a.n+1),a.v)
 else if zj L a.n≠44 then(bad 3 (zC L T a.n) a.n,0)
 else if zj L (a.n+1)=125 then(good a.v (a.n+2),-1)
 else
  let m:=yx L T (a.n+1)
  if m.k≠0 then(m,0)
  else if zj L m.n≠125 then(bad 3 (zC L T m.n) m.n,0)
  else if m.v<a.v then(bad 4 (zC L T n) (m.n+1),0)
  else(good a.v (m.n+1),m.v)
end Pro
def xE (b:Nat)(L:List (Int×Int))(T dp:Int)(a:Nat->Addr)(w:E)(o:Pro.Out)(yes no:Y)(x:Ending)(l:E):Prop:=
 zf (zt b) w l/\yh l b L o.n T dp/\((o.k=0/\x=R (Ue #[yes,Ui]))\/(o.k≠0/\∃v,x=R (Ue #[no,v])/\zN l w.heap.size v (yj a o.k) o.p))
theorem qi {base:Nat}{a:Nat->Addr}{o:Pro.Out}{yes no:Y}{x:Ending}(h:(o.k=0/\x=R (Ue #[yes,Ui]))\/(o.k≠0/\∃v,x=R (Ue #[no,v])/\zN l base v (yj a o.k) o.p))(b:o.k=0):x=R (Ue #[yes,Ui]):=by grind
theorem Xi {base:Nat}{a:Nat->Addr}{o:Pro.Out}{yes no:Y}{x:Ending}(h:(o.k=0/\x=R (Ue #[yes,Ui]))\/(o.k≠0/\∃v,x=R (Ue #[no,v])/\zN l base v (yj a o.k) o.p))(b:o.k≠0):∃v,x=R (Ue #[no,v])/\zN l base v (yj a o.k) o.p:=by grind
variable {b w}
theorem yt.mine {a:Nat->Addr}(h:yt w a)(k:zf (zt b) w l)(c:11<=b):yt l a:=h.keep k (λj d e=>by unfold zt at e;omega)
theorem yt.drewN {w:E}{a:Nat->Addr}(h:yt w a)(q:Nat):yt (w.drewN q) a:=h.keep ((zf.refl (λ_=>False) w).drewN q) (λ_ _ f=>f)
variable {L T dp a}
theorem vy {o:Pro.Out}{yes no v:Y}{k n:Nat}{p:Int}(g:o=Pro.bad k p n)(f:k≠0)(d:zf (zt b) w l)(e:yh l b L n T dp)(c:zN l w.heap.size v (yj a k) p):xE b L T dp a w o yes no (R (Ue #[no,v])) l:=by subst g;exact⟨d,e,O ⟨f,v,rfl,c⟩⟩
theorem jU {o:Pro.Out}{yes c no:Y}{v:Int}{n:Nat}(f:o=Pro.good v n)(g:c=yes)(d:zf (zt b) w l)(e:yh l b L n T dp):xE b L T dp a w o yes no (R (Ue #[c,Ui])) l:=by subst f;subst g;exact⟨d,e,Q ⟨rfl,rfl⟩⟩
theorem zfM (x:Int)(a:0<=x)(b:x<2147483648):bits .and Ug x 31=x % 32:=bits_mask Ug 31 od wraps_i32 5 od x a oa
theorem zfN (h:k<=4):(16:Int) ^ k<=65536:=by have:k=0\/k=1\/k=2\/k=3\/k=4:=oa;rcases this with rfl|rfl|rfl|rfl|rfl<;>decide
namespace Pro
theorem hexV_hi (b:Int):hexV b<=15:=by unfold hexV;(repeat' split)<;>omega
theorem zep (b:Int):-1<=hexV b:=by unfold hexV;(repeat' split)<;>omega
theorem YJ {n:Nat}{c:Int}(h:hexV (zj L n)<0):yF L T (f+1) c n=bad 3 (zC L T n) n:=by simp only[yF];rw[IN h]
theorem ZB {n:Nat}{c:Int}(h:0<=hexV (zj L n)):yF L T (f+1) c n=yF L T f (16*c+hexV (zj L n)) (n+1):=by simp only[yF];rw[iN oa]
theorem Qy {n:Nat}(h:0<=hexV (zj L n)):n<L.length:=by by_cases a:n<L.length;exact a;rw[xZ oa] at h;exact absurd h od
end Pro
theorem zad (x y:Int)(b:0<=x)(c:x<134217728)(a:0<=y)(d:y<16):bits .or Ug (x*16) y=16*x+y:=by rw[bits_join Ug 31 od wraps_i32 4 (x*16) y oa oa oa a oa oa];omega
theorem zf.none {P:Nat->Prop}{w l:E}(h:ziE w l):zf P w l:=h.mono (λ_ _ f=>f.elim)
variable (b L T dp a w)
theorem zae (h:yh w b L n T dp)(l:yt w a)(_t:11<=b)(i:L.length<=400)(x:n<=L.length)(j:Pro.Fit L):Uh V 282 #[Ua (I ⟨b,0,U⟩)] w (xE b L T dp a w (Pro.xN L T n) (M Ug (Pro.xN L T n).v) (M Ug 0)):=by
 have c:=ze h;have m:=ze l;have u:=j n;clear l j;by_cases g:Pro.letter (Pro.zj L n)
 .have d:H (Pro.xN L T n=Pro.good (Pro.zj L n % 32) (n+1)):=by unfold Pro.xN;rw[IN g];rfl
  obtain⟨o,c1,p,q,f1,r⟩:=h;clear o p q r;unfold Pro.letter at g;go_enter func282,ntmps282;go_wp2_with(go_at_call 157;refine ziD (jp b L (n) T dp _ (by exact c) i oa) ?_)
  all_goals
   go_ret2;refine jU d ?_ ((zf.refl _ _).mine _ _) (c.setN _ _ oa);rw[zb d];show M Ug _=M Ug _;rw[zfM _ oa oa];rfl
 have d:H (Pro.xN L T n=Pro.bad 3 (Pro.zC L T n) n):=by unfold Pro.xN;rw[iN g];rfl
 unfold Pro.letter at g;clear h;go_enter func282,ntmps282;go_wp2_with(first|(go_at_call 157;refine ziD (jp b L (n) T dp _ (by exact c) i oa) ?_)|(go_at_call 64;refine(vx b L (n) T dp a _ (by exact c) (by exact m) i oa).mono ?_;rintro e y ⟨v,rfl,s,k⟩))
 all_goals
  go_ret2;exact vy d od k.none (c.keep k id (λ_ _ f=>f)) s
variable (d)
theorem xL (h:yh w b L n T dp)(t:yt w a)(S:11<=b)(p:L.length<=400)(hn:n<=L.length)(P:Pro.Fit L)(r:d<=4):Uh V 283 #[Ua (I ⟨b,0,U⟩),M J d] w (xE b L T dp a w (Pro.yF L T d 0 n) (M Ug (Pro.yF L T d 0 n).v) (M Ug 0)):=by
 have o:=ze t;clear t;go_enter func283,ntmps283;go_wp2_with fail;go_loopw[6,10] (λc i wr=>∃(k:Nat) (q:Int),k<=d/\i=M J k/\c=M Ug q/\0<=q/\q<(16:Int) ^ k/\n+k<=L.length/\H (yh wr b L (n+k) T dp)/\zf (zt b) w wr/\H (Pro.yF L T d 0 n=Pro.yF L T (d-k) q (n+k)))
  (λ_ i _=>d-(intOf i).toNat)
 exact⟨0,0,Nat.zero_le _,rfl,rfl,oa,ov,oa,h,zf.refl _ _,rfl⟩;obtain⟨k,q,hk,rfl,rfl,aa,am,ak,g,l,m⟩:=hrel;have hp:(16:Int) ^ k<=65536:=zfN k oa;have ae:=Pro.hexV_hi (Pro.zj L (n+k));have ad:=Pro.zep (Pro.zj L (n+k));have af:=P (n+k);by_cases ai:k<d
 .by_cases r:Pro.hexV (Pro.zj L (n+k))<0
  ·(have j:H (Pro.yF L T d 0 n=Pro.bad 3 (Pro.zC L T (n+k)) (n+k)):=by rw[zb m,show d-k=(d-k-1)+1 by omega];exact Pro.YJ r);have N:Pro.ZZ (Pro.zj L (n+k))=Z:=(by unfold Pro.ZZ;simp;omega);have o:=ze (o.mine l S);go_wp2_with(first|(go_at_call 157;refine ziD (jp b L (n+k) T dp _ (by exact g) p oa) ?_)|(go_at_call 299;refine ziD (vO _ _ oa oa) ?_)|(go_at_call 64;refine(vx b L (n+k) T dp a _ (by exact g) (by exact o) p oa).mono ?_;rintro e wq ⟨v,rfl,hv,s⟩));go_ret2;exact vy j od (l.trans s.none) (g.keep s id (λ_ _ f=>f)) (hv.base l.size)
  (have j:H (Pro.yF L T d 0 n=Pro.yF L T (d-(k+1)) (16*q+Pro.hexV (Pro.zj L (n+k))) (n+(k+1))):=by rw[zb m,show d-k=(d-(k+1))+1 by omega];exact Pro.ZB oa);have ah:n+k<L.length:=Pro.Qy oa;have N:Pro.ZZ (Pro.zj L (n+k))=G:=(by unfold Pro.ZZ;simp;omega);have hN:Pro.hexN (Pro.zj L (n+k))=Pro.hexV (Pro.zj L (n+k)):=(by unfold Pro.hexN;rw[iN r]);have X:(16:Int) ^ (k+1)=16*(16:Int) ^ k:=(by rw[ziy];omega);have u:16*q+Pro.hexV (Pro.zj L (n+k))<(16:Int) ^ (k+1):=oa;have x:=ze u;clear X u;have W:=zb g;obtain⟨y,c1,z,B,f1,F⟩:=W;clear y z B F;go_wp2_with(first|(go_at_call 157;refine ziD (jp b L (n+k) T dp _ (by exact g) p oa) ?_)|(go_at_call 299;refine ziD (vO _ _ oa oa) ?_));refine⟨⟨k+1,16*q+Pro.hexV (Pro.zj L (n+k)),oa,by go_num,?_,oa,x,oa,g.setN _ _ oa,l.mine _ _,j⟩,by simp[intOf];omega⟩;rw[zad _ _ aa oa oa oa]
 (have j:H (Pro.yF L T d 0 n=Pro.good q (n+k)):=by rw[zb m,show d-k=0 by omega];rfl);go_wp2_with fail;go_ret2;exact jU j (by rw[zb j];rfl) l (zb g)
namespace Pro
theorem zH (c:UInt8)(k:Int)(a:k=(c.toNat:Int)):zE L n { data:=#[c] }=decide (zj L n=k):=by
 subst a;show kZ L n { data:=#[c] } 1 0=_;simp only[kZ];have:zd { data:=#[c] } 0=(c.toNat:Int):=rfl;rw[this];by_cases h:zj L (n+0)=(c.toNat:Int)
 rw[IN h];simpa using h;rw[iN h];simpa using h
theorem xh (c d:UInt8)(k j:Int)(f:k=(c.toNat:Int))(e:j=(d.toNat:Int)):zE L n { data:=#[c,d] }=decide (zj L n=k/\zj L (n+1)=j):=by
 subst f;subst e;show kZ L n { data:=#[c,d] } 2 0=_;simp only[kZ];have a:zd { data:=#[c,d] } 0=(c.toNat:Int):=rfl;have b:zd { data:=#[c,d] } (0+1)=(d.toNat:Int):=rfl;rw[a,b];by_cases h:zj L (n+0)=(c.toNat:Int)
 grind
 grind
variable {L n}
theorem zJ (h:0<=zj L n):n<L.length:=by by_cases a:n<L.length;exact a;rw[xZ oa] at h;omega
theorem Zk {T:Int}{f d n:Nat}{c:Int}(h:0<d)(a:zj L n=125):xH L T (f+1) c d n=good c (n+1):=by simp only[xH];rw[IN ⟨h,a⟩]
theorem YK {T:Int}{f d n:Nat}{c:Int}(h:¬(0<d/\zj L n=125))(a:hexV (zj L n)<0\/1114111<16*c+hexV (zj L n)):xH L T (f+1) c d n=bad 3 (zC L T n) n:=by simp only[xH];rw[iN h,IN a]
theorem Z0 {T:Int}{f d n:Nat}{c:Int}(h:¬(0<d/\zj L n=125))(a:¬(hexV (zj L n)<0\/1114111<16*c+hexV (zj L n))):xH L T (f+1) c d n=xH L T f (16*c+hexV (zj L n)) (d+1) (n+1):=by simp only[xH];rw[iN h,iN a]
end Pro
theorem Jb (h:yh w b L n T dp)(z:yt w a)(hb:11<=b)(o:L.length<=400)(hn:n<=L.length)(hF:Pro.Fit L):Uh V 284 #[Ua (I ⟨b,0,U⟩)] w (xE b L T dp a w (Pro.ku L T n) (M Ug (Pro.ku L T n).v) (M Ug 0)):=by
 have r:=ze z;clear z;go_enter func284,ntmps284;go_wp2_with fail;go_loopw[4,5] (λc i wr=>∃(d:Nat) (q:Int),i=M J d/\c=M Ug q/\0<=q/\q<=1114111/\n+d<=L.length/\H (yh wr b L (n+d) T dp)/\zf (zt b) w wr/\H (Pro.ku L T n=Pro.xH L T (L.length+1-(n+d)) q d (n+d)))
  (λ_ i _=>L.length-(intOf i).toNat)
 exact⟨0,0,rfl,rfl,oa,oa,oa,h,zf.refl _ _,rfl⟩;obtain⟨d,q,rfl,rfl,F,aq,ap,g,k,t⟩:=hrel;have am:=Pro.hexV_hi (Pro.zj L (n+d));have al:=Pro.zep (Pro.zj L (n+d));have an:=hF (n+d);by_cases j:0<d/\Pro.zj L (n+d)=125
 ·(have m:H (Pro.ku L T n=Pro.good q (n+d+1)):=by rw[zb t,show L.length+1-(n+d)=(L.length-(n+d))+1 by omega];exact Pro.Zk j.1 j.2);have l:((d:Int) == 0)=Z:=ou;have B:Pro.zE L (n+d) { data:=#[125] }=G:=(by rw[Pro.zH L (n+d) 125 125 rfl];simp[j.2]);clear j;go_wp2_with(go_at_call 113;refine(jM b L (n+d) T dp _ _ (by exact g) o oa od ox).mono ?_;rintro e x ⟨rfl,ab,p⟩);go_ret2;exact jU m (by rw[zb m];rfl) (k.trans p) ab
 by_cases s:Pro.hexV (Pro.zj L (n+d))<0\/1114111<16*q+Pro.hexV (Pro.zj L (n+d))
 ·(((have m:H (Pro.ku L T n=Pro.bad 3 (Pro.zC L T (n+d)) (n+d)):=by rw[zb t,show L.length+1-(n+d)=(L.length-(n+d))+1 by omega];exact Pro.YK j s);have r:=ze (r.mine k hb);have u:(((d:Int) == 0)=G)\/(((d:Int) == 0)=Z/\Pro.zE L (n+d) { data:=#[125] }=Z):=by by_cases l:d=0;left;simp[l];right;exact⟨by simp;omega,by rw[Pro.zH L (n+d) 125 125 rfl];simp;omega⟩);have ah:(Pro.ZZ (Pro.zj L (n+d))=Z)\/(Pro.ZZ (Pro.zj L (n+d))=G/\bits BinOp.or IntKind.i32 (q*16) (Pro.hexN (Pro.zj L (n+d)))=16*q+Pro.hexV (Pro.zj L (n+d))/\1114111<16*q+Pro.hexV (Pro.zj L (n+d))):=by by_cases hx:Pro.hexV (Pro.zj L (n+d))<0;left;unfold Pro.ZZ;simp;omega;right;refine⟨by unfold Pro.ZZ;simp;omega,?_,oa⟩;have:Pro.hexN (Pro.zj L (n+d))=Pro.hexV (Pro.zj L (n+d)):=(by unfold Pro.hexN;rw[iN hx]);rw[this];exact zad _ _ F oa oa oa);clear j s;rcases u with l|⟨l,B⟩
  all_goals
   rcases ah with y|⟨y,af,ak⟩
  all_goals
   go_wp2_with(first|(go_at_call 113;refine(ZY b L (n+d) T dp _ _ (by exact g) o oa od ox).mono ?_;rintro e x ⟨rfl,qq,rfl⟩)|(go_at_call 157;refine ziD (jp b L (n+d) T dp _ (by first|exact g|exact g.drewN _) o oa) ?_)|(go_at_call 299;refine ziD (vO _ _ oa oa) ?_)|(go_at_call 64;refine(vx b L (n+d) T dp a _ (by first|exact g|exact g.drewN _) (by first|exact r|exact r.drewN _) o oa).mono ?_;rintro e x ⟨v,rfl,N,p⟩))
  all_goals
   go_ret2
   first
    |exact vy m od (k.trans p.none) (g.keep p id (λ_ _ f=>f)) (N.base k.size)
    |exact vy m od ((k.drewN _).trans p.none) ((g.drewN _).keep p id (λ_ _ f=>f)) (N.base k.size)
 (((have m:H (Pro.ku L T n=Pro.xH L T (L.length+1-(n+(d+1))) (16*q+Pro.hexV (Pro.zj L (n+d))) (d+1) (n+(d+1))):=by have ae:n+d<L.length:=Pro.Qy oa;rw[zb t,show L.length+1-(n+d)=(L.length+1-(n+(d+1)))+1 by omega];exact Pro.Z0 j s);have ae:n+d<L.length:=Pro.Qy oa;have u:(((d:Int) == 0)=G)\/(((d:Int) == 0)=Z/\Pro.zE L (n+d) { data:=#[125] }=Z):=by by_cases l:d=0;left;simp[l];right;exact⟨by simp;omega,by rw[Pro.zH L (n+d) 125 125 rfl];simp;omega⟩);have y:Pro.ZZ (Pro.zj L (n+d))=G:=(by unfold Pro.ZZ;simp;omega);have af:bits BinOp.or IntKind.i32 (q*16) (Pro.hexN (Pro.zj L (n+d)))=16*q+Pro.hexV (Pro.zj L (n+d)):=by have:Pro.hexN (Pro.zj L (n+d))=Pro.hexV (Pro.zj L (n+d)):=(by unfold Pro.hexN;rw[iN oa]);rw[this];exact zad _ _ F oa oa oa);have ag:16*q+Pro.hexV (Pro.zj L (n+d))<=1114111:=oa;have ad:0<=16*q+Pro.hexV (Pro.zj L (n+d)):=oa;clear j s;have j:=zb g;obtain⟨P,c1,S,W,f1,X⟩:=j;clear P S W X;rcases u with l|⟨l,B⟩
 all_goals
  go_wp2_with(first|(go_at_call 113;refine(ZY b L (n+d) T dp _ _ (by exact g) o oa od ox).mono ?_;rintro e x ⟨rfl,qq,rfl⟩)|(go_at_call 157;refine ziD (jp b L (n+d) T dp _ (by first|exact g|exact g.drewN _) o oa) ?_)|(go_at_call 299;refine ziD (vO _ _ oa oa) ?_))
 all_goals
  exact⟨⟨d+1,16*q+Pro.hexV (Pro.zj L (n+d)),by go_num,rfl,ad,ag,oa,(by first|exact g.setN _ _ oa|exact(g.drewN _).setN _ _ oa),(by first|exact k.mine _ _|exact(k.drewN _).mine _ _),m⟩,by simp[intOf];omega⟩
namespace Pro
theorem zaf (L:List (Int×Int))(T:Int):∀(f:Nat) (c:Int) (n:Nat),0<=c->c<(16:Int) ^ (4-f)->f<=4->0<=(yF L T f c n).v/\(yF L T f c n).v<=65535
 |0,c,n,b,a,_=>by simp only[yF,good];simp at a;omega
 |f+1,c,n,b,a,e=>by
  have h:(16:Int) ^ (4-f)=16*(16:Int) ^ (4-(f+1)):=by rw[show 4-f=(4-(f+1))+1 by omega,ziy];omega
  have g:=hexV_hi (zj L n);by_cases d:hexV (zj L n)<0;rw[YJ d];simp only[bad];omega;rw[ZB oa];exact zaf L T f _ (n+1) oa oa oa
theorem YL (L:List (Int×Int))(T:Int):∀(f:Nat) (c:Int) (n:Nat),n<=L.length->n<=(yF L T f c n).n/\(yF L T f c n).n<=L.length/\((yF L T f c n).k=0->(yF L T f c n).n=n+f)
 |0,c,n,h=>by simp only[yF,good];omega
 |f+1,c,n,h=>by
  by_cases a:hexV (zj L n)<0;rw[YJ a];simp only[bad];omega;rw[ZB oa];have b:n<L.length:=Qy oa;have:=YL L T f (16*c+hexV (zj L n)) (n+1) oa;omega
variable {L T}
theorem lowV_bd {n:Nat}(h:0<=j6 L T n):56320<=j6 L T n/\j6 L T n<=57343:=by unfold j6 at h ⊢;split at h;rename_i a;rw[IN a];omega;omega
end Pro
theorem YM (h:yh w b L n T dp)(S:yt w a)(o:11<=b)(j:L.length<=400)(hn:n<=L.length)(B:Pro.Fit L):Uh V 300 #[Ua (I ⟨b,0,U⟩)] w λx l=>zf (zt b) w l/\((0<=Pro.j6 L T n/\x=R (Ue #[M Ug (Pro.j6 L T n),C G])/\yh l b L (n+6) T dp)\/(Pro.j6 L T n = -1/\x=R (Ue #[M Ug 0,C Z])/\yh l b L n T dp)):=by
 have q:=ze h;have f:=ze S;clear S;obtain⟨X,c1,c2,c3,f1,f3⟩:=h;clear X c2 c3 f3;cases hm:Pro.zE L n { data:=#[92,117] }
 .have i:H (Pro.j6 L T n = -1):=by rw[Pro.xh L n 92 117 92 117 rfl rfl] at hm;simp only[decide_eq_false_iff_not] at hm;unfold Pro.j6;rw[iN (λm=>hm ⟨m.1,m.2.1⟩)];rfl
  go_enter func300,ntmps300;go_wp2_with(go_at_call 113;refine(ZY b L (n) T dp _ _ (by exact q) j oa od ox).mono ?_;rintro e wq ⟨rfl,qq,rfl⟩);go_ret2;exact⟨((zf.refl _ _).drewN _).mine _ _,O ⟨i,rfl,(q.drewN _).setN _ _ rfl⟩⟩
 have y:Pro.zj L n=92/\Pro.zj L (n+1)=117:=by rw[Pro.xh L n 92 117 92 117 rfl rfl] at hm;simpa using hm
 have ak:n+1<L.length:=Pro.zJ oa;have al:=Pro.zaf L T 4 0 (n+2) oa od oa;have ae:=Pro.YL L T 4 0 (n+2) oa;by_cases p:(Pro.yF L T 4 0 (n+2)).k=0
 .by_cases u:56320<=(Pro.yF L T 4 0 (n+2)).v/\(Pro.yF L T 4 0 (n+2)).v<=57343
  ·(have i:H (Pro.j6 L T n=(Pro.yF L T 4 0 (n+2)).v):=by unfold Pro.j6;rw[IN ⟨y.1,y.2,p,u.1,u.2⟩];rfl);obtain⟨ah,ai⟩:=u;clear y;go_enter func300,ntmps300;go_wp2_with(first|(go_at_call 113;refine(jM b L (n) T dp _ _ (by exact q) j oa od ox).mono ?_;rintro e z ⟨rfl,d,g⟩;have d:yh z b L ((n)+2) T dp:=d;have r:=ze d);(have f:=ze (f.mine g o))|(go_at_call 283;refine(xL b L (n+2) T dp a 4 _ (by exact r) (by exact f) o j oa B oa).mono ?_;rintro e W ⟨s,c,t⟩;obtain rfl:=qi t p;have F:=ze c;have N:=c.c1;have P:=c.f1));go_ret2;exact⟨g.trans s,Q ⟨by rw[zb i];omega,by rw[zb i];rfl,by have:=ae.2.2 p;rw[this] at c;exact c⟩⟩
  (have i:H (Pro.j6 L T n = -1):=by unfold Pro.j6;rw[iN (λm=>u ⟨m.2.2.2.1,m.2.2.2.2⟩)];rfl);clear y;go_enter func300,ntmps300;go_wp2_with(first|(go_at_call 113;refine(jM b L (n) T dp _ _ (by exact q) j oa od ox).mono ?_;rintro e z ⟨rfl,d,g⟩;have d:yh z b L ((n)+2) T dp:=d;have r:=ze d);(have f:=ze (f.mine g o))|(go_at_call 283;refine(xL b L (n+2) T dp a 4 _ (by exact r) (by exact f) o j oa B oa).mono ?_;rintro e W ⟨s,c,t⟩;obtain rfl:=qi t p;have F:=ze c;have N:=c.c1;have P:=c.f1))
  all_goals first
   |(exfalso;exact u ⟨oa,oa⟩)
   |(go_ret2;exact⟨(g.trans s).mine _ _,O ⟨i,rfl,c.setN _ _ rfl⟩⟩)
 (have i:H (Pro.j6 L T n = -1):=by unfold Pro.j6;rw[iN (λm=>p m.2.2.1)];rfl);clear y;go_enter func300,ntmps300;go_wp2_with(first|(go_at_call 113;refine(jM b L (n) T dp _ _ (by exact q) j oa od ox).mono ?_;rintro e z ⟨rfl,d,g⟩;have d:yh z b L ((n)+2) T dp:=d;have r:=ze d);(have f:=ze (f.mine g o))|(go_at_call 283;refine(xL b L (n+2) T dp a 4 _ (by exact r) (by exact f) o j oa B oa).mono ?_;rintro e W ⟨s,c,t⟩;obtain⟨v2,rfl,af⟩:=Xi t p;obtain⟨g2,ad⟩:=af.form;subst ad;have F:=ze c;have N:=c.c1;have P:=c.f1));go_ret2;exact⟨(g.trans s).mine _ _,O ⟨i,rfl,c.setN _ _ rfl⟩⟩
theorem zdy {A B:Prop}(h:(0<=v/\x=y/\A)\/(v = -1/\x=z/\B))(a:0<=v):x=y/\A:=by grind
theorem zfO {A B:Prop}(h:(0<=v/\x=y/\A)\/(v = -1/\x=z/\B))(a:¬0<=v):x=z/\B:=by grind
theorem Qz (h:yh w b L n T dp)(F:yt w a)(j:11<=b)(o:L.length<=400)(hn:n<=L.length)(m:Pro.Fit L):Uh V 285 #[Ua (I ⟨b,0,U⟩)] w (xE b L T dp a w (Pro.ym L T n) (M Ug (Pro.ym L T n).v) (M Ug 0)):=by
 have r:=ze h;have d:=ze F;clear h F;have ae:=Pro.zaf L T 4 0 n oa od oa;have N:=Pro.YL L T 4 0 n oa;by_cases g:(Pro.yF L T 4 0 n).k=0
 .by_cases W:(Pro.yF L T 4 0 n).v<55296\/56319<(Pro.yF L T 4 0 n).v
  .have i:H (Pro.ym L T n=Pro.yF L T 4 0 n):=(by unfold Pro.ym;rw[IN (O W)];rfl);go_enter func285,ntmps285;go_wp2_with(first|(go_at_call 283;refine(xL b L n T dp a 4 _ (by exact r) (by exact d) j o oa m oa).mono ?_;rintro e B ⟨f,c,l⟩;obtain rfl:=qi l g;have p:=ze c;have s:=c.c1;have t:=c.f1))
   all_goals first
    |(exfalso;omega)
    |(go_ret2;rw[zb i];exact⟨f,c,Q ⟨g,rfl⟩⟩)
  have q:=N.2.2 g;have ac:n+4<=L.length:=oa;clear N;by_cases z:0<=Pro.j6 L T (n+4)
  ·(have i:H (Pro.ym L T n=Pro.good (65536+((Pro.yF L T 4 0 n).v-55296)*1024+(Pro.j6 L T (n+4)-56320)) (n+4+6)):=by unfold Pro.ym;rw[iN oa,q,IN z];rfl);have ab:=Pro.lowV_bd z;go_enter func285,ntmps285;go_wp2_with(first|(go_at_call 283;refine(xL b L n T dp a 4 _ (by exact r) (by exact d) j o oa m oa).mono ?_;rintro e B ⟨f,c,l⟩;obtain rfl:=qi l g;have p:=ze c;have s:=c.c1;have t:=c.f1);(have d:=ze (d.mine f j))|(go_at_call 300;refine(YM b L (n+4) T dp a _ (by have:=zb p;rw[q] at this;exact this) d j o oa m).mono ?_;rintro e X ⟨u,y⟩;obtain⟨rfl,x⟩:=zdy y oa))
   all_goals first
    |(exfalso;omega)
    |(go_ret2;exact jU i (by rw[zb i];rfl) (f.trans u) x)
  have i:H (Pro.ym L T n=Pro.yF L T 4 0 n):=(by unfold Pro.ym;rw[iN oa,q,iN z];rfl);go_enter func285,ntmps285;go_wp2_with(first|(go_at_call 283;refine(xL b L n T dp a 4 _ (by exact r) (by exact d) j o oa m oa).mono ?_;rintro e B ⟨f,c,l⟩;obtain rfl:=qi l g;have p:=ze c;have s:=c.c1;have t:=c.f1);(have d:=ze (d.mine f j))|(go_at_call 300;refine(YM b L (n+4) T dp a _ (by have:=zb p;rw[q] at this;exact this) d j o oa m).mono ?_;rintro e X ⟨u,y⟩;obtain⟨rfl,x⟩:=zfO y oa))
  all_goals first
   |(exfalso;omega)
   |(go_ret2;rw[zb i];exact⟨f.trans u,(by rw[q];exact x),Q ⟨g,rfl⟩⟩)
 have i:H (Pro.ym L T n=Pro.yF L T 4 0 n):=by unfold Pro.ym;rw[IN (Q g)];rfl
 go_enter func285,ntmps285;go_wp2_with(first|(go_at_call 283;refine(xL b L n T dp a 4 _ (by exact r) (by exact d) j o oa m oa).mono ?_;rintro e B ⟨f,c,l⟩;obtain⟨v2,rfl,P⟩:=Xi l g;obtain⟨g2,S⟩:=P.form;subst S;have p:=ze c;have s:=c.c1;have t:=c.f1))
 all_goals
  go_ret2;rw[zb i];exact⟨f,c,O ⟨g,_,rfl,P⟩⟩
set_option maxHeartbeats 2000000
set_option maxRecDepth 1000000
theorem XG:Uh V 295 #[Uc s,M .u8 c] w λe l=>e=R (M J (firstIdx s c.toNat.toUInt8))/\l=w:=by rw[Lib.firstIdx_eq];go_enter func295,ntmps295;go_wp2;rw[run_callFunc_extern func305 om om om (e:=Extern.BytealgIndexByte.indexByte) om,Lib.run_indexByteString];simp only[Result.andThen];rw[Oper.upon_value];go_wp2;go_ret;exact⟨rfl,rfl⟩
theorem KQ (a:r<0):Uh V 279 #[Uc s,M Ug r] w λe l=>e=R (M J (-1))/\l=w:=by go_enter func279,ntmps279;go_wp2;go_ret;exact⟨rfl,rfl⟩
theorem JT (a:0<=r)(b:r<128):Uh V 279 #[Uc s,M Ug r] w λe l=>e=R (M J (firstIdx s r.toNat.toUInt8))/\l=w:=by go_enter func279,ntmps279;go_wp2_with(go_at_call 295;refine ziD (XG _ _ _) ?_);go_ret;exact⟨rfl,rfl⟩
theorem KR (p:128<=r)(y:r<=1114111)(z:r≠65533)(f:∀b∈s.data.toList,b.toNat<128)(_q:s.size<=20):Uh V 279 #[Uc s,M Ug r] w λe l=>e=R (M J (-1))/\ziE w l:=by
 by_cases h:(0<=r/\r<55296)\/(57343<r/\r<=1114111)
 .have k:Utf8.valid r=G:=by rw[validRune_eq];unfold validRune;exact decide_eq_true h
  obtain⟨t,u,m⟩:=encode_facts r k p;have m:128<=zd (Utf8.encode r) ((Utf8.encode r).size-1):=by have n:(Utf8.encode r).size-1<(Utf8.encode r).size:=oa;rw[yZ _ _ n];have:=m n;omega
  have v:=xj (Utf8.encode r) ((Utf8.encode r).size-1);generalize B:Utf8.encode r=c at *;have S:∀d,(Instr.index 9 (Uc c) (M J ((c.size:Int)-1))).run V d=.ok (M .u8 (zd c (c.size-1))) d:=λd=>ZA c _ oa _ oa d;by_cases g:c.size-1<s.size
  ·(have P:∀d,(Instr.index 9 (Uc s) (M J ((c.size:Int)-1))).run V d=.ok (M .u8 (zd s (c.size-1))) d:=λd=>ZA s _ g _ oa d;have x:zd s (c.size-1)<128:=by rw[yZ s _ g];have:=f (s[c.size-1]) (by exact Array.getElem_mem_toList (xs:=s.data) g);omega);have L:(zd s (c.size-1) != zd c (c.size-1))=G:=ou;have F:∀a e,firstIdx (s.extract a e) (zd c (c.size-1)).toNat.toUInt8 = -1:=λa e=>firstIdx_ascii s a e _ f ou;have N:IntKind.i64.wrap ((c.size:Int)-1+1)=(c.size:Int):=(by rw[wrap_small _ oa oa];omega);have o:=ze f;clear f k;go_enter func279,ntmps279;rcases h with⟨i,j⟩|⟨i,j⟩
   all_goals
    go_wp2_with go_in
    go_step3
    go_wp2;refine wp_loop_rounds 1 ?_;rw[rounds_succ];go_wp2
    go_step3
    go_wp2;go_quiet(fail);go_wp2;go_quiet((go_at_call 295;exact(XG _ _ _).mono (by rintro e T ⟨rfl,rfl⟩;exact⟨rfl,_,rfl⟩)));go_wp2;rw[Exit.noGoto_ret];go_wp2;rw[Exit.noGoto_ret];go_wp2;go_ret;exact⟨rfl,(zf.refl _ _).drewN _⟩
  have o:=ze f;clear f k;go_enter func279,ntmps279;rcases h with⟨i,j⟩|⟨i,j⟩
  all_goals
   go_wp2_with go_in
   go_step3
   go_wp2;refine wp_loop_rounds 1 ?_;rw[rounds_succ];go_wp2;rw[Exit.noGoto_ret];go_wp2;go_ret;exact⟨rfl,zf.refl _ _⟩
 go_enter func279,ntmps279;go_wp2
 all_goals first
  |(exfalso;omega)
  |(go_ret;exact⟨rfl,zf.refl _ _⟩)
theorem JU (d:∀b∈s.data.toList,b.toNat<128)(_i:s.size<=20):Uh V 279 #[Uc s,M Ug 65533] w λe l=>e=R (M J (-1))/\ziE w l:=by
 go_enter func279,ntmps279;go_wp2;go_loopw[4] (λ_ wr=>∃pos:Nat,wr=w.iter s pos) (λ_ wr=>s.size-wr.iterPos w.heap.size);exact⟨0,rfl⟩;obtain⟨pos,rfl⟩:=hrel;by_cases c:pos<s.size
 .have g:(s[pos]'c).toNat<128:=d _ (by exact Array.getElem_mem_toList (xs:=s.data) c);have h:∀a,(Instr.next (Ua (I ⟨w.heap.size,0,U⟩)) G a).run V (w.iter s pos)=_:=λa=>run_next_ascii w s pos a c g;have j:(((s[pos]'c).toNat:Int) == 65533)=Z:=ou;have f:=ze d;clear d;go_wp2;go_roundw;exact⟨pos+1,rfl⟩;simp;omega
 have h:∀a,(Instr.next (Ua (I ⟨w.heap.size,0,U⟩)) G a).run V (w.iter s pos)=_:=λa=>run_next_end w s pos a c;have f:=ze d;clear d;go_wp2;go_ret;exact⟨rfl,(zf.refl _ _).alloc _⟩
def Pro.inB (s:ByteArray)(r:Int):Bool:=s.data.toList.any λb=>decide ((b.toNat:Int)=r)
theorem inB_low (a:0<=r)(c:r<128):decide (0<=firstIdx s r.toNat.toUInt8)=Pro.inB s r:=by
 rw[firstIdx_nonneg];unfold Pro.inB;congr 1;funext b;have d:=b.toNat_lt;by_cases h:(b.toNat:Int)=r
 .have e:b=r.toNat.toUInt8:=by apply UInt8.toNat_inj.1;rw[<-h];simp
  rw[beq_iff_eq.2 e,decide_eq_true h]
 rw[decide_eq_false h,beq_eq_false_iff_ne];intro e;apply h;rw[e];simp;omega
theorem KS (c:∀b∈s.data.toList,b.toNat<128)(h:r<0\/128<=r):Pro.inB s r=Z:=by unfold Pro.inB;rw[List.any_eq_false];intro b a;have:=c b a;simp;omega
theorem VC (j:r<=1114111)(a:∀b∈s.data.toList,b.toNat<128)(i:s.size<=20):Uh V 279 #[Uc s,M Ug r] w λe l=>(∃k,e=R (M J k)/\decide (0<=k)=Pro.inB s r)/\ziE w l:=by by_cases f:r<0;exact(KQ s r w f).mono (by rintro e d ⟨rfl,rfl⟩;exact⟨⟨_,rfl,(KS s r a (Q f)).symm⟩,zf.refl _ _⟩);by_cases g:r<128;exact(JT s r w oa g).mono (by rintro e d ⟨rfl,rfl⟩;exact⟨⟨_,rfl,inB_low s r oa g⟩,zf.refl _ _⟩);by_cases h:r=65533;subst h;exact(JU s w a i).mono (by rintro e d ⟨rfl,c⟩;exact⟨⟨_,rfl,(KS s _ a (O oa)).symm⟩,c⟩);exact(KR s r w oa j h a i).mono (by rintro e d ⟨rfl,c⟩;exact⟨⟨_,rfl,(KS s _ a (O oa)).symm⟩,c⟩)
theorem QA (d:r<=1114111)(a:∀b∈s.data.toList,b.toNat<128)(h:s.size<=20):Uh V 253 #[Uc s,M Ug r] w λe l=>e=R (C (Pro.inB s r))/\ziE w l:=by have c:=ze a;clear a;go_enter func253,ntmps253;go_wp2_with(go_at_call 279;refine(VC s r _ d c h).mono ?_;rintro e i ⟨⟨k,rfl,g⟩,f⟩);go_ret;exact⟨by rw[<-g];rfl,f⟩
theorem inB_sign:Pro.inB { data:=#[94,36,92,46,42,43,63,40,41,91,93,123,125,124,47] } r=Pro.sign r:=rfl
theorem Yn (f:c<=1114111):Uh V 280 #[M Ug c] w λx l=>x=R (Ue #[M Ug (Pro.vD c),C (Pro.kB c)])/\ziE w l:=by
 by_cases a:0<=Pro.ctlV c
 .have b:H (Pro.vD c=Pro.ctlV c/\Pro.kB c=G):=⟨by unfold Pro.vD;rw[IN a],by unfold Pro.kB;simp[a]⟩
  have d:c=116\/c=110\/c=118\/c=102\/c=114:=by unfold Pro.ctlV at a;(repeat' split at a)<;>omega
  clear a f;rcases d with rfl|rfl|rfl|rfl|rfl
  all_goals
   go_enter func280,ntmps280;go_wp2_with fail;go_ret2;rw[b.out.1,b.out.2];exact⟨rfl,zf.refl _ _⟩
 have b:H (Pro.vD c=c/\Pro.kB c=Pro.sign c):=⟨by unfold Pro.vD;rw[iN a],by unfold Pro.kB;simp[a]⟩
 have d:(c == 116)=Z/\(c == 110)=Z/\(c == 118)=Z/\(c == 102)=Z/\(c == 114)=Z:=by
  unfold Pro.ctlV at a
  (repeat' split at a)<;>simp<;>omega
 obtain⟨h,i,j,k,m⟩:=d;clear a;go_enter func280,ntmps280;go_wp2_with(go_at_call 253;refine(QA _ _ _ f od od).mono ?_;rintro e n ⟨rfl,g⟩);go_ret2;rw[b.out.1,b.out.2,<-inB_sign];exact⟨rfl,g⟩
theorem xE.trans {b:Nat}{L:List (Int×Int)}{T dp:Int}{a:Nat->Addr}{w w1 l:E}{o:Pro.Out}{yes no:Y}{x:Ending}(d:zf (zt b) w w1)(h:xE b L T dp a w1 o yes no x l):xE b L T dp a w o yes no x l:=by obtain⟨e,f,c⟩:=h;refine⟨d.trans e,f,?_⟩;rcases c with c|⟨g,v,j,i⟩;exact Q c;exact O ⟨g,v,j,i.base d.size⟩
variable {b L T dp a w}
theorem xE.yes {o:Pro.Out}{yes no:Y}(e:o.k=0)(c:zf (zt b) w l)(d:yh l b L o.n T dp):xE b L T dp a w o yes no (R (Ue #[yes,Ui])) l:=⟨c,d,Q ⟨e,rfl⟩⟩
theorem xE.no {o:Pro.Out}{yes no v:Y}(e:o.k≠0)(c:zf (zt b) w l)(d:yh l b L o.n T dp)(f:zN l w.heap.size v (yj a o.k) o.p):xE b L T dp a w o yes no (R (Ue #[no,v])) l:=⟨c,d,O ⟨e,v,rfl,f⟩⟩
variable (b L T dp a w)
theorem zdz (h:yh w b L n T dp)(j:yt w a)(_o:11<=b)(i:L.length<=400)(k:n<=L.length)(_m:Pro.Fit L):Uh V 281 #[Ua (I ⟨b,0,U⟩)] w (xE b L T dp a w (Pro.vJ L T n) (M Ug (Pro.vJ L T n).v) (M Ug 0)):=by
 refine(zero_any b L n T dp a w h j i k).mono ?_;rintro e p ⟨d,⟨g,rfl⟩|⟨g,v,rfl,l⟩⟩
 .have c:Pro.vJ L T n=Pro.good 0 n:=by unfold Pro.vJ Pro.dig;rw[g];rfl
  exact jU c (by rw[c];rfl) d.none (h.keep d id (λ_ _ f=>f))
 have c:Pro.vJ L T n=Pro.bad 3 (Pro.zC L T n) n:=by unfold Pro.vJ Pro.dig;rw[g];rfl
 exact vy c od d.none (h.keep d id (λ_ _ f=>f)) l
variable {b L T dp a w}
theorem xE.form {o:Pro.Out}{yes no:Y}{x:Ending}(h:xE b L T dp a w o yes no x l):∃y v,x=R (Ue #[y,v]):=by rcases h.2.2 with⟨_,e⟩|⟨_,v,e,_⟩<;>exact⟨_,_,e⟩
namespace Pro
theorem chain5 (a b c d e:Bool):a=G\/(a=Z/\b=G)\/(a=Z/\b=Z/\c=G)\/(a=Z/\b=Z/\c=Z/\d=G)\/(a=Z/\b=Z/\c=Z/\d=Z/\e=G)\/(a=Z/\b=Z/\c=Z/\d=Z/\e=Z):=by grind
variable (L T)
theorem zeroO_n (n:Nat):(vJ L T n).n=n:=by unfold vJ;split<;>rfl
end Pro
variable (b L T dp a w)
theorem wV (h:yh w b L n T dp)(hS:yt w a)(q:11<=b)(o:L.length<=400)(hn:n<=L.length)(u:Pro.Fit L):Uh V 254 #[Ua (I ⟨b,0,U⟩)] w (xE b L T dp a w (Pro.vE L T n) (M Ug (Pro.vE L T n).v) (M Ug 0)):=by
 have g:=ze h;have j:=ze hS;clear h hS;have ak:=u n;cases hsh:Pro.kB (Pro.zj L n) with
 |true=>
  have z:H (Pro.vE L T n=Pro.good (Pro.vD (Pro.zj L n)) (n+1)):=by unfold Pro.vE;rw[IN hsh];rfl
  have r:n<L.length:=by by_cases r:n<L.length;exact r;rw[Pro.xZ oa] at hsh;exact absurd hsh od
  go_enter func254,ntmps254;go_wp2_with(first|(go_at_call 157;refine ziD (jp b L (n) T dp _ (by exact g) o oa) ?_)|(go_at_call 280;refine(Yn _ _ oa).mono ?_;rintro e w1 ⟨rfl,p⟩;have g:=ze (g.keep p id (λ_ _ f=>f));have j:=ze (j.keep p (λ_ _ f=>f));have c1:=g.c1;have f1:=g.f1));go_ret2;exact jU z (by rw[zb z];rfl) (p.none.mine _ _) (g.setN _ _ oa)
 |false=>
  have z:H (Pro.vE L T n=if Pro.zE L n { data:=#[48] }=G then Pro.vJ L T (n+1) else if Pro.zE L n { data:=#[99] }=G then Pro.xN L T (n+1) else if Pro.zE L n { data:=#[120] }=G then Pro.yF L T 2 0 (n+1) else if Pro.zE L n { data:=#[117,123] }=G then Pro.ku L T (n+2) else if Pro.zE L n { data:=#[117] }=G then Pro.ym L T (n+1) else Pro.bad 3 (Pro.zC L T n) n):=by show _=_;rw[Pro.zH L n 48 48 rfl,Pro.zH L n 99 99 rfl,Pro.zH L n 120 120 rfl,Pro.xh L n 117 123 117 123 rfl rfl,Pro.zH L n 117 117 rfl];unfold Pro.vE;rw[hsh];simp only[decide_eq_true_eq,Bool.false_eq_true,if_false]
  have B:∀(c:UInt8) (k:Int),k=(c.toNat:Int)->Pro.zE L n { data:=#[c] }=G->n<L.length:=λc k hk e=>Pro.zJ (by rw[Pro.zH L n c k hk] at e;simp at e;omega);have l2:Pro.zE L n { data:=#[117,123] }=G->n+1<L.length:=λe=>Pro.zJ (by rw[Pro.xh L n 117 123 117 123 rfl rfl] at e;simp at e;omega);have L0:=B 48 48 rfl;have X:=B 99 99 rfl;have L2:=B 120 120 rfl;have L4:=B 117 117 rfl;clear B;rcases Pro.chain5 (Pro.zE L n { data:=#[48] }) (Pro.zE L n { data:=#[99] }) (Pro.zE L n { data:=#[120] }) (Pro.zE L n { data:=#[117,123] }) (Pro.zE L n { data:=#[117] }) with x|⟨x,F⟩|⟨x,F,N⟩|⟨x,F,N,S⟩|⟨x,F,N,S,m4⟩|⟨x,F,N,S,m4⟩
  all_goals
   first|have r:=L0 x|have r:=X F|have r:=L2 N|have r:=l2 S|have r:=L4 m4|skip
   clear L0 X L2 L4 l2;simp only[*,if_true,if_false,Bool.false_eq_true] at z;go_enter func254,ntmps254;go_wp2_with(first|(go_at_call 157;refine ziD (jp b L (n) T dp _ (by exact g) o oa) ?_)|(go_at_call 280;refine(Yn _ _ oa).mono ?_;rintro e w1 ⟨rfl,p⟩;have g:=ze (g.keep p id (λ_ _ f=>f));have j:=ze (j.keep p (λ_ _ f=>f));have c1:=g.c1;have f1:=g.f1)|(go_at_call 113;refine(ZY b L (n) T dp _ _ (by first|exact g|exact g.drewN _) o oa od ox).mono ?_;rintro e wq ⟨rfl,qq,rfl⟩)|(go_at_call 113;refine(jM b L (n) T dp _ _ (by first|exact g|exact g.drewN _) o oa od ox).mono ?_;rintro e W ⟨rfl,l,i⟩;have l:yh W b L ((n)+1) T dp:=l;have m:=ze l);(have j:=ze (j.mine (by first|exact i|exact((zf.refl _ _).drewN _).trans i) q))|(go_at_call 113;refine(jM b L (n) T dp _ _ (by exact g.drewN _) o oa od ox).mono ?_;rintro e W ⟨rfl,l,i⟩;have l:yh W b L ((n)+2) T dp:=l;have m:=ze l);(have j:=ze (j.mine (by first|exact i|exact((zf.refl _ _).drewN _).trans i) q))|(go_at_call 281;refine(zdz b L (n+1) T dp a _ (by exact m) (by exact j) q o oa u).mono ?_;intro e P d;obtain⟨y,v,rfl⟩:=d.form;have t:=ze d;have s:=ze i;clear d i m l)|(go_at_call 282;refine(zae b L (n+1) T dp a _ (by exact m) (by exact j) q o oa u).mono ?_;intro e P d;obtain⟨y,v,rfl⟩:=d.form;have t:=ze d;have s:=ze i;clear d i m l)|(go_at_call 283;refine(xL b L (n+1) T dp a 2 _ (by exact m) (by exact j) q o oa u oa).mono ?_;intro e P d;obtain⟨y,v,rfl⟩:=d.form;have t:=ze d;have s:=ze i;clear d i m l)|(go_at_call 284;refine(Jb b L (n+2) T dp a _ (by exact m) (by exact j) q o oa u).mono ?_;intro e P d;obtain⟨y,v,rfl⟩:=d.form;have t:=ze d;have s:=ze i;clear d i m l)|(go_at_call 285;refine(Qz b L (n+1) T dp a _ (by exact m) (by exact j) q o oa u).mono ?_;intro e P d;obtain⟨y,v,rfl⟩:=d.form;have t:=ze d;have s:=ze i;clear d i m l)|(go_at_call 64;refine(vx b L (n) T dp a _ (by exact g.drewN _) (by exact j.drewN _) o oa).mono ?_;rintro e wq ⟨v,rfl,hv,ac⟩));go_ret2;rw[zb z]
   first|first|exact xE.trans (p.none.trans s) t|exact xE.trans ((p.none.drewN _).trans s) t|exact vy rfl od ((p.none.drewN _).trans ac.none) ((g.drewN _).keep ac id (λ_ _ f=>f)) (hv.base p.size)
def Own (b base:Nat)(k:Nat):Prop:=k=b\/base<=k
theorem Own.of {b base:Nat}{w l:E}(k:zf (zt b) w l):zf (Own b base) w l:=k.mono (λ_ _ h=>Q h)
variable {b w}
theorem Own.to (k:zf (Own b w.heap.size) w l):zf (zt b) w l:=k.mono (λj a h=>by rcases h with h|h;exact h;omega)
structure Trk (base:Nat)(w0:E)(b:Nat)(L:List (Int×Int))(n:Nat)(len dp:Int)(a:Nat->Addr)(w:E):Prop where
 rd:yh w b L n len dp
 se:yt w a
 on:zf (Own b base) w0 w
 hb:11<=b
 lt:b<base
 le:base<=w0.heap.size
section
variable {base:Nat} {w0:World} {b:Nat} {L:List (Int×Int)} {n:Nat} {T dp:Int} {a:Nat->Addr} {w l:World}
theorem Trk.start (h:yh w b L n T dp)(c:yt w a)(d:11<=b):Trk w.heap.size w b L n T dp a w:=⟨h,c,zf.refl _ _,d,h.lt,zgH _⟩
theorem Trk.drewN (t:Trk base w0 b L n T dp a w)(q:Nat):Trk base w0 b L n T dp a (w.drewN q):=⟨t.rd.drewN q,t.se.drewN q,t.on.drewN q,t.hb,t.lt,t.le⟩
theorem Trk.setN (t:Trk base w0 b L n T dp a w)(m:Nat)(j:Int)(c:j=(m:Int)):Trk base w0 b L m T dp a (w.setCell ⟨b,1,U⟩ (M J j)):=⟨t.rd.setN m j c,t.se.mine ((zf.refl _ _).mine _ _) t.hb,t.on.trans (Own.of ((zf.refl _ _).mine _ _)),t.hb,t.lt,t.le⟩
theorem Trk.calm (t:Trk base w0 b L n T dp a w)(k:ziE w l):Trk base w0 b L n T dp a l:=⟨t.rd.keep k id (λ_ _ f=>f),t.se.keep k (λ_ _ f=>f),t.on.trans k.none,t.hb,t.lt,t.le⟩
theorem Trk.mine {m:Nat}(t:Trk base w0 b L n T dp a w)(k:zf (zt b) w l)(h:yh l b L m T dp):Trk base w0 b L m T dp a l:=⟨h,t.se.mine k t.hb,t.on.trans (Own.of k),t.hb,t.lt,t.le⟩
theorem Trk.c1 (t:Trk base w0 b L n T dp a w):w.cell? ⟨b,1,U⟩=I (M J n):=t.rd.c1
theorem Trk.f1 (t:Trk base w0 b L n T dp a w):w.frozen? ⟨b,1,U⟩=Z:=t.rd.f1
theorem Trk.good {o:Pro.Out}{yes c no:Y}{v:Int}(t:Trk w0.heap.size w0 b L n T dp a w)(d:o=Pro.good v n)(e:c=yes):xE b L T dp a w0 o yes no (R (Ue #[c,Ui])) w:=jU d e (Own.to t.on) t.rd
theorem Trk.bad {o:Pro.Out}{yes no v:Y}{k:Nat}{p:Int}(t:Trk w0.heap.size w0 b L n T dp a w)(e:o=Pro.bad k p n)(d:k≠0)(c:zN w w0.heap.size v (yj a k) p):xE b L T dp a w0 o yes no (R (Ue #[no,v])) w:=vy e d (Own.to t.on) t.rd c
theorem Trk.yes {o:Pro.Out}{yes no:Y}(t:Trk w0.heap.size w0 b L o.n T dp a w)(c:o.k=0):xE b L T dp a w0 o yes no (R (Ue #[yes,Ui])) w:=xE.yes c (Own.to t.on) t.rd
theorem Trk.no {o:Pro.Out}{yes no v:Y}(t:Trk w0.heap.size w0 b L o.n T dp a w)(c:o.k≠0)(d:zN w w0.heap.size v (yj a o.k) o.p):xE b L T dp a w0 o yes no (R (Ue #[no,v])) w:=xE.no c (Own.to t.on) t.rd d
theorem y8 (t:Trk base w0 b L n T dp a w)(c:L.length<=400)(d:n<=1000):Uh V 157 #[Ua (I ⟨b,0,U⟩)] w λx l=>x=R (M Ug (Pro.zj L n))/\l=w:=jp b L n T dp w t.rd c d
theorem J0 (k:Nat)(t:Trk base w0 b L n T dp a w)(c:L.length<=400)(e:n<=1000)(d:k<=1000):Uh V 159 #[Ua (I ⟨b,0,U⟩),M J k] w λx l=>x=R (M Ug (Pro.zj L (n+k)))/\l=w:=Xh b L n T dp k w t.rd c e d
theorem qj (t:Trk base w0 b L n T dp a w)(c:L.length<=400)(d:n<=L.length):Uh V 114 #[Ua (I ⟨b,0,U⟩)] w λx l=>x=R (M J (Pro.zC L T n))/\∃q,l=w.drewN q:=Wa b L n T dp w t.rd c d
theorem Xj (t:Trk base w0 b L n T dp a w):Uh V 63 #[Ua (I ⟨b,0,U⟩)] w λx l=>x=R (C ((n:Int) == (L.length:Int)))/\∃q,l=w.drewN q:=vd b L n T dp w t.rd
theorem xF (word:ByteArray)(t:Trk base w0 b L n T dp a w)(c:L.length<=400)(e:n<=1000)(f:word.size<=10)(d:Pro.zE L n word=Z):Uh V 113 #[Ua (I ⟨b,0,U⟩),Uc word] w λx l=>x=R (C Z)/\∃q,l=w.drewN q:=ZY b L n T dp word w t.rd c e f d
theorem vF (word:ByteArray)(t:Trk base w0 b L n T dp a w)(f:L.length<=400)(h:n<=1000)(i:word.size<=10)(g:Pro.zE L n word=G):Uh V 113 #[Ua (I ⟨b,0,U⟩),Uc word] w λx l=>x=R (C G)/\Trk base w0 b L (n+word.size) T dp a l:=
 (jM b L n T dp word w t.rd f h i g).mono (by rintro e j ⟨rfl,c,d⟩;exact⟨rfl,t.mine d c⟩)
theorem taken_t (word:ByteArray)(t:Trk base w0 b L n T dp a w)(f:L.length<=400)(g:n<=1000)(h:word.size<=10):Uh V 113 #[Ua (I ⟨b,0,U⟩),Uc word] w λx l=>x=R (C (Pro.zE L n word))/\Trk base w0 b L (Pro.behind L n word) T dp a l:=
 (zbG b L n T dp word w t.rd f g h).mono (by rintro e i ⟨rfl,c,d⟩;exact⟨rfl,t.mine d c⟩)
def rdN (w:E)(b:Nat):Nat:=match w.cell? ⟨b,1,U⟩ with
 |some v=>(intOf v).toNat
 |none=>0
theorem Trk.rdN (t:Trk base w0 b L n T dp a w):rdN w b=n:=by unfold Go.Proofs.YtcgleficedipkaaGreatDoor.rdN;rw[t.c1];simp[intOf]
theorem QB (t:Trk base w0 b L n T dp a w)(c:L.length<=400)(f:n<=L.length):Uh V 64 #[Ua (I ⟨b,0,U⟩)] w λx l=>∃v,x=R v/\zN l w0.heap.size v (yj a 3) (Pro.zC L T n)/\Trk base w0 b L n T dp a l:=
 (vx b L n T dp a w t.rd t.se c f).mono (by rintro e h ⟨v,rfl,g,d⟩;exact⟨v,rfl,g.base t.on.size,t.calm d⟩)
theorem Z1 (s:ByteArray)(r:Int)(t:Trk base w0 b L n T dp a w)(c:r<=1114111)(f:∀b∈s.data.toList,b.toNat<128)(g:s.size<=20):Uh V 253 #[Uc s,M Ug r] w λe l=>e=R (C (Pro.inB s r))/\Trk base w0 b L n T dp a l:=
 (QA s r w c f g).mono (by rintro e h ⟨rfl,d⟩;exact⟨rfl,t.calm d⟩)
theorem JB (c:TypeId)(k:Nat)(p:Int)(x:Y)(g : Ud c x=yj a k)(t:Trk base w0 b L n T dp a w):Uh V 45 #[Ud c x,M J p] w λe l=>∃v,e=R v/\zN l w0.heap.size v (yj a k) p/\Trk base w0 b L n T dp a l:=
 (jg c x p w).mono (by rintro e h ⟨v,rfl,d,f⟩;rw[g] at d;exact⟨v,rfl,d.base t.on.size,t.calm f⟩)
theorem jD {f:FuncId}{args:Array Y}{o:Pro.Out}{yes no:Y}(t:Trk base w0 b L n T dp a w)(h:Uh V f args w (xE b L T dp a w o yes no)):Uh V f args w λx l=>Trk base w0 b L o.n T dp a l/\((o.k=0/\x=R (Ue #[yes,Ui]))\/(o.k≠0/\∃v,x=R (Ue #[no,v])/\zN l w0.heap.size v (yj a o.k) o.p)):=
 h.mono (by
  rintro x k ⟨d,e,c⟩;refine⟨t.mine d e,?_⟩;rcases c with c|⟨g,v,j,i⟩;exact Q c;exact O ⟨g,v,j,i.base t.on.size⟩)
end
def charV (c:Int):Y:=Ud 247 (M Ug c)
def manyV (c:Int):Y:=Ud 248 (M Ug c)
def oneV (m:Bool)(c:Int):Y:=match m with
 |true=>manyV c
 |false=>charV c
variable (b w)
theorem YN (h:yh w b L n T dp)(r:yt w a)(p:11<=b)(f:L.length<=400)(B:n<L.length)(o:Pro.Fit L):Uh V 223 #[Ua (I ⟨b,0,U⟩)] w (xE b L T dp a w (Pro.xO L T n) (oneV (Pro.jj (Pro.zj L (n+1))) (Pro.xO L T n).v) Ui):=by
 have c:=ze (Trk.start h r p);have c1:=h.c1;have f1:=h.f1;clear h r;have z:=o (n+1);cases hset:Pro.jj (Pro.zj L (n+1))
 .have x:Pro.inB { data:=#[100,68,119,87,115,83] } (Pro.zj L (n+1))=Z:=hset;cases hback:Pro.backB (Pro.zj L (n+1))
  .have i:H (Pro.xO L T n=Pro.vE L T (n+1)):=(by unfold Pro.xO;rw[iN (by simp[hset]),iN (by simp[hback])];rfl);have s:Pro.inB { data:=#[49,50,51,52,53,54,55,56,57,107,112,80] } (Pro.zj L (n+1))=Z:=hback;by_cases l:(Pro.vE L T (n+1)).k=0
   .go_enter func223,ntmps223;go_wp2_with(first|(go_at_call 114;refine(qj (n:=n) (by exact c) f oa).mono ?_;rintro e g ⟨rfl,q,rfl⟩)|(go_at_call 157;refine ziD (y8 (n:=n+1) (by exact(c.drewN _).setN _ _ oa) f oa) ?_)|(go_at_call 253;refine(Z1 (n:=n+1) _ _ (by first|exact c|exact(c.drewN _).setN _ _ oa) oa od od).mono ?_;rintro e g ⟨rfl,d⟩;have c:=ze d;have c1:=d.c1;have f1:=d.f1)|(go_at_call 254;refine(jD (n:=n+1) (by exact c) (wV b L (n+1) T dp a _ (Trk.rd (n:=n+1) (by exact c)) (Trk.se (n:=n+1) (by exact c)) p f oa o)).mono ?_;rintro e g ⟨d,j⟩;obtain rfl:=qi j l;clear j;have c:=ze d;have c1:=d.c1;have f1:=d.f1));go_ret2;rw[zb i];exact c.yes l
   go_enter func223,ntmps223;go_wp2_with(first|(go_at_call 114;refine(qj (n:=n) (by exact c) f oa).mono ?_;rintro e g ⟨rfl,q,rfl⟩)|(go_at_call 157;refine ziD (y8 (n:=n+1) (by exact(c.drewN _).setN _ _ oa) f oa) ?_)|(go_at_call 253;refine(Z1 (n:=n+1) _ _ (by first|exact c|exact(c.drewN _).setN _ _ oa) oa od od).mono ?_;rintro e g ⟨rfl,d⟩;have c:=ze d;have c1:=d.c1;have f1:=d.f1)|(go_at_call 254;refine(jD (n:=n+1) (by exact c) (wV b L (n+1) T dp a _ (Trk.rd (n:=n+1) (by exact c)) (Trk.se (n:=n+1) (by exact c)) p f oa o)).mono ?_;rintro e g ⟨d,j⟩;obtain⟨v,rfl,m⟩:=Xi j l;obtain⟨y,t⟩:=m.form;subst t;clear j;have c:=ze d;have c1:=d.c1;have f1:=d.f1));go_ret2;rw[zb i];exact c.no l m
  have i:H (Pro.xO L T n=Pro.bad 6 (Pro.zC L T n) (n+1)):=(by unfold Pro.xO;rw[iN (by simp[hset]),IN hback];rfl);have s:Pro.inB { data:=#[49,50,51,52,53,54,55,56,57,107,112,80] } (Pro.zj L (n+1))=G:=hback;have u:=c.se.s6;go_enter func223,ntmps223;go_wp2_with(first|(go_at_call 114;refine(qj (n:=n) (by exact c) f oa).mono ?_;rintro e g ⟨rfl,q,rfl⟩)|(go_at_call 157;refine ziD (y8 (n:=n+1) (by exact(c.drewN _).setN _ _ oa) f oa) ?_)|(go_at_call 253;refine(Z1 (n:=n+1) _ _ (by first|exact c|exact(c.drewN _).setN _ _ oa) oa od od).mono ?_;rintro e g ⟨rfl,d⟩;have c:=ze d;have c1:=d.c1;have f1:=d.f1);(have u:=c.se.s6)|(go_at_call 45;refine(JB (n:=n+1) _ 6 _ _ rfl (by exact c)).mono ?_;rintro e g ⟨v,rfl,m,d⟩;have c:=ze d;have c1:=d.c1;have f1:=d.f1));go_ret2;exact c.bad i od m
 have i:H (Pro.xO L T n=Pro.good (Pro.zj L (n+1)) (n+2)):=by unfold Pro.xO;rw[IN hset];rfl
 have x:Pro.inB { data:=#[100,68,119,87,115,83] } (Pro.zj L (n+1))=G:=hset;go_enter func223,ntmps223;go_wp2_with(first|(go_at_call 114;refine(qj (n:=n) (by exact c) f oa).mono ?_;rintro e g ⟨rfl,q,rfl⟩)|(go_at_call 157;refine ziD (y8 (n:=n+1) (by exact(c.drewN _).setN _ _ oa) f oa) ?_)|(go_at_call 253;refine(Z1 (n:=n+1) _ _ (by exact(c.drewN _).setN _ _ oa) oa od od).mono ?_;rintro e g ⟨rfl,d⟩;have c:=ze d;have c1:=d.c1;have f1:=d.f1));go_ret2;exact(c.setN (n+2) _ oa).good i (by rw[zb i];rfl)
namespace Pro
theorem setB_b:jj 98=Z:=od
theorem setB_d:jj 45=Z:=od
variable {L n}
theorem zeq (h:zj L n≠92):many L n=Z:=by unfold many;simp[h]
theorem QC (h:zj L n=92):many L n=jj (zj L (n+1)):=by unfold many;simp[h]
end Pro
theorem qm (h:yh w b L n T dp)(x:yt w a)(t:11<=b)(i:L.length<=400)(W:n<L.length)(s:Pro.Fit L):Uh V 276 #[Ua (I ⟨b,0,U⟩)] w (xE b L T dp a w (Pro.zp L T n) (oneV (Pro.many L n) (Pro.zp L T n).v) Ui):=by
 have c:=ze (Trk.start h x t);have c1:=h.c1;have f1:=h.f1;clear h x;have S:=s n;by_cases d:Pro.zj L n=92
 .by_cases j:Pro.zj L (n+1)=98
  .have g:H (Pro.zp L T n=Pro.good 8 (n+2)):=(by unfold Pro.zp;rw[IN ⟨d,j⟩];rfl);have o:H (Pro.many L n=Z):=(by rw[Pro.QC d,j];exact Pro.setB_b);have z:Pro.zE L n { data:=#[92,98] }=G:=(by rw[Pro.xh L n 92 98 92 98 rfl rfl];simp[d,j]);clear d j;go_enter func276,ntmps276;go_wp2_with(go_at_call 113;refine(vF (n:=n) _ (by exact c) i oa od ox).mono ?_;rintro e m ⟨rfl,f⟩;have f:Trk _ _ b L ((n)+2) T dp a m:=f;have c:=ze f;have c1:=f.c1;have f1:=f.f1);go_ret2;exact c.good g (by rw[zb g,zb o];rfl)
  have z:Pro.zE L n { data:=#[92,98] }=Z:=(by rw[Pro.xh L n 92 98 92 98 rfl rfl];simp[d,j]);by_cases p:Pro.zj L (n+1)=45
  .have g:H (Pro.zp L T n=Pro.good 45 (n+2)):=(by unfold Pro.zp;rw[iN (λl=>j l.2),IN ⟨d,p⟩];rfl);have o:H (Pro.many L n=Z):=(by rw[Pro.QC d,p];exact Pro.setB_d);have B:Pro.zE L n { data:=#[92,45] }=G:=(by rw[Pro.xh L n 92 45 92 45 rfl rfl];simp[d,p]);clear d j p;go_enter func276,ntmps276;go_wp2_with(first|(go_at_call 113;refine(xF (n:=n) _ (by first|exact c|exact c.drewN _) i oa od ox).mono ?_;rintro e m ⟨rfl,u,rfl⟩)|(go_at_call 113;refine(vF (n:=n) _ (by exact c.drewN _) i oa od ox).mono ?_;rintro e m ⟨rfl,f⟩;have f:Trk _ _ b L ((n)+2) T dp a m:=f;have c:=ze f;have c1:=f.c1;have f1:=f.f1));go_ret2;exact c.good g (by rw[zb g,zb o];rfl)
  have B:Pro.zE L n { data:=#[92,45] }=Z:=(by rw[Pro.xh L n 92 45 92 45 rfl rfl];simp[d,p]);have g:H (Pro.zp L T n=Pro.xO L T n):=(by unfold Pro.zp;rw[iN (λl=>j l.2),iN (λl=>p l.2),IN d];rfl);have o:H (Pro.many L n=Pro.jj (Pro.zj L (n+1))):=Pro.QC d;have F:(Pro.zj L n == 92)=G:=(by simp[d]);clear d j p;by_cases r:(Pro.xO L T n).k=0
  .go_enter func276,ntmps276;go_wp2_with(first|(go_at_call 113;refine(xF (n:=n) _ (by first|exact c|exact c.drewN _) i oa od ox).mono ?_;rintro e m ⟨rfl,u,rfl⟩)|(go_at_call 157;refine ziD (y8 (n:=n) (by exact c.drewN _) i oa) ?_)|(go_at_call 223;refine(jD (n:=n) (by exact c.drewN _) (YN b L n T dp a _ (Trk.rd (n:=n) (by exact c.drewN _)) (Trk.se (n:=n) (by exact c.drewN _)) t i oa s)).mono ?_;rintro e m ⟨f,q⟩;obtain rfl:=qi q r;clear q;have c:=ze f;have c1:=f.c1;have f1:=f.f1));go_ret2;rw[zb g,zb o];exact c.yes r
  go_enter func276,ntmps276;go_wp2_with(first|(go_at_call 113;refine(xF (n:=n) _ (by first|exact c|exact c.drewN _) i oa od ox).mono ?_;rintro e m ⟨rfl,u,rfl⟩)|(go_at_call 157;refine ziD (y8 (n:=n) (by exact c.drewN _) i oa) ?_)|(go_at_call 223;refine(jD (n:=n) (by exact c.drewN _) (YN b L n T dp a _ (Trk.rd (n:=n) (by exact c.drewN _)) (Trk.se (n:=n) (by exact c.drewN _)) t i oa s)).mono ?_;rintro e m ⟨f,q⟩;obtain⟨v,rfl,y⟩:=Xi q r;obtain⟨P,N⟩:=y.form;subst N;clear q;have c:=ze f;have c1:=f.c1;have f1:=f.f1));go_ret2;rw[zb g,zb o];exact c.no r y
 have z:Pro.zE L n { data:=#[92,98] }=Z:=by rw[Pro.xh L n 92 98 92 98 rfl rfl];simp[d]
 have B:Pro.zE L n { data:=#[92,45] }=Z:=by rw[Pro.xh L n 92 45 92 45 rfl rfl];simp[d]
 have g:H (Pro.zp L T n=Pro.good (Pro.zj L n) (n+1)):=by unfold Pro.zp;rw[iN (λl=>d l.1),iN (λl=>d l.1),iN d];rfl
 have o:H (Pro.many L n=Z):=Pro.zeq d;have F:(Pro.zj L n == 92)=Z:=by simp[d]
 clear d;go_enter func276,ntmps276;go_wp2_with(first|(go_at_call 113;refine(xF (n:=n) _ (by first|exact c|exact c.drewN _) i oa od ox).mono ?_;rintro e m ⟨rfl,u,rfl⟩)|(go_at_call 157;refine ziD (y8 (n:=n) (by exact c.drewN _) i oa) ?_));go_ret2;exact(Trk.setN (by exact c.drewN _) (n+1) _ oa).good g (by rw[zb g,zb o];rfl)
theorem YO (base:Nat)(w0 w:E)(t:Trk base w0 b L n T dp a w)(d:L.length<=400)(m:n<=500):Uh V 277 #[Ua (I ⟨b,0,U⟩)] w λx l=>x=R (C (Pro.jN L n))/\l=w:=by
 have c:=ze t;clear t;by_cases f:Pro.zj L n=45
 .by_cases g:Pro.zj L (n+1)=93
  .have e:H (Pro.jN L n=Z):=(by unfold Pro.jN;simp[f,g];trivial);go_enter func277,ntmps277;go_wp2_with(first|(go_at_call 157;refine ziD (y8 (n:=n) (by exact c) d oa) ?_)|(go_at_call 159;refine ziD (J0 (n:=n) 1 (by exact c) d oa oa) ?_));go_ret;rw[zb e];exact⟨rfl,rfl⟩
  by_cases h:Pro.zj L (n+1) = -1
  .have e:H (Pro.jN L n=Z):=(by unfold Pro.jN;simp[f,h];trivial);go_enter func277,ntmps277;go_wp2_with(first|(go_at_call 157;refine ziD (y8 (n:=n) (by exact c) d oa) ?_)|(go_at_call 159;refine ziD (J0 (n:=n) 1 (by exact c) d oa oa) ?_));go_ret;rw[zb e];exact⟨rfl,rfl⟩
  have e:H (Pro.jN L n=G):=(by unfold Pro.jN;simp[f,g,h];trivial);have j:(Pro.zj L (n+1) != 93)=G:=(by simp[g]);have k:(Pro.zj L (n+1) != -1)=G:=(by simp[h]);clear g h;go_enter func277,ntmps277;go_wp2_with(first|(go_at_call 157;refine ziD (y8 (n:=n) (by exact c) d oa) ?_)|(go_at_call 159;refine ziD (J0 (n:=n) 1 (by exact c) d oa oa) ?_));go_ret;rw[zb e];exact⟨rfl,rfl⟩
 have e:H (Pro.jN L n=Z):=by unfold Pro.jN;simp[f];trivial
 have i:(Pro.zj L n == 45)=Z:=by simp[f]
 clear f;go_enter func277,ntmps277;go_wp2_with(first|(go_at_call 157;refine ziD (y8 (n:=n) (by exact c) d oa) ?_)|(go_at_call 159;refine ziD (J0 (n:=n) 1 (by exact c) d oa oa) ?_));go_ret;rw[zb e];exact⟨rfl,rfl⟩
end
