/- The assertions of the reader's trees, and of the programs made of them. -/
import Derived.Test.YtofeiledkmfnfaaGreatDoorYE
import Derived.RangeFuncBound
import Derived.RangeFuncLeaves
import Derived.Shelf.Abstract
import Derived.OwnWalkIn
import Derived.TacticsInMore
import Derived.LoopNIn
import Derived.LoopIn
import Derived.RangeFuncBox
namespace Go.Proofs.YtofeiledkmfnfaaGreatDoor
open World renaming heap->u,cell?->dx,ownsRow->dA,alloc->dB
open _root_.Array renaming size->X,size->dg,size->k
open Value renaming ownBlock->dH
open _root_.ByteArray renaming size->dJ,size->i
open Option renaming none->U,some->I
open Value renaming int->M,slice->K,bool->C,pointer->Ua,string->Uc,iface->Ud,tuple->Ue,agg->Uf,nilIface->Ui
open IntKind renaming i64->J,i32->Ug
open Bool renaming false->Z,true->G
open _root_.Go.Proofs.Tryz renaming prog->V
open Go renaming World->E,Value->Y,Calls->Uh
open Go.RowKit renaming Hid->H
open Or renaming inr->O,inl->Q
open Obj renaming cells->Ub
open Go.Instr renaming typeAssert->Uk
open And renaming intro->Ur
open Ts Ref Sm Tw
open _root_.Go.Proofs.Tryz
open List renaming length->D
open List renaming length->Bc
set_option maxHeartbeats 4000000
set_option maxRecDepth 1000000
variable {b base F:Nat}(v:Value)(s:Al){g:Ai}{h p:Nat}(L R:Ai)(S:Ar){j:Int}(x r:Int×Int)(a c:Int)(w:World)(f n:Nat){T:TypeId}
section
open Sm (Tree Stp)
namespace Ts
def j6:Nat->Tree->Prop
 |0,_=>True
 |f+1,T=>(T.kind=0->0<=T.a/\T.a<=3)/\∀t∈T.kids,j6 f t
section
variable {L:Ai} {r:Int}
theorem XZ {T:Tree}(b:T.kind≠0)(c:T.kids=[]):∀f,j6 f T
 |0=>trivial
 |f+1=>⟨λe=>absurd e b,λt a=>by rw[c] at a;cases a⟩
theorem Nu {T:Tree}(a:T.kind≠0)(h:∀t∈T.kids,∀f,j6 f t):∀f,j6 f T
 |0=>trivial
 |f+1=>⟨λe=>absurd e a,λt b=>h t b f⟩
theorem I8 (n:Nat):∀f,j6 f (Zk (By L n))
 |0=>trivial
 |f+1=>⟨λ_=>by
   show 0<=By L n/\By L n<=3;unfold By;split;omega;split;omega;split<;>omega,λt a=>by simp[Zk] at a⟩
theorem zcy {DT:Nat->Tree}(a:∀n f,j6 f (DT n))(n f:Nat):j6 f (xj L r DT n):=by unfold xj;split;exact a n f;split;exact XZ (by simp[xS,vV]) rfl f;split;unfold BJ;split;exact XZ (by simp[qU]) rfl f;exact XZ (by simp[ju]) rfl f;split;exact XZ (by simp[Zl]) rfl f;exact XZ (by simp[ju]) rfl f
theorem De {D:Nat->Out}{DT:Nat->Tree}(a:∀n f,j6 f (DT n))(n f:Nat):j6 f (jg L r D DT n):=by unfold jg;split;exact I8 n f;split;exact zcy a n f;refine Nu (by simp[vW]) (λt b f=>?_) f;obtain rfl:t=xj L r DT n:=(by simpa [vW] using b);exact zcy a n f
theorem zam {D:Nat->Out}{DT:Nat->Tree}(c:∀n f,j6 f (DT n)):∀(g:Nat) (b:Au) (n:Nat),(∀t∈b,∀f,j6 f t)->∀t∈jC L r D DT g b n,∀f,j6 f t
 |0,_,_,h=>h
 |g+1,b,n,h=>by
  unfold jC;split;exact h;refine zam c g _ _ (λt a=>?_);obtain a|a:=A7.1 a;exact h t a;obtain rfl:=A5.1 a;exact λf=>De c n f
theorem zgP {D:Nat->Out}{DT:Nat->Tree}(a:∀n f,j6 f (DT n))(n f:Nat):j6 f (qe L r D DT n):=
 Nu (by simp[qe,ZX]) (zam a _ [] n ov) f
theorem zfF {D:Nat->Out}{DT:Nat->Tree}(d:∀n f,j6 f (DT n)):∀(g:Nat) (b:Au) (n:Nat),(∀t∈b,∀f,j6 f t)->∀t∈A4 L r D DT g b n,∀f,j6 f t
 |0,_,_,h=>h
 |g+1,b,n,h=>by
  have c:∀t∈b++[qe L r D DT n],∀f,j6 f t:=λt a=>by obtain a|a:=A7.1 a;exact h t a;obtain rfl:=A5.1 a;exact λf=>zgP d n f
  unfold A4;split;exact zfF d g _ _ c;exact c
theorem zfG {D:Nat->Out}{DT:Nat->Tree}(a:∀n f,j6 f (DT n))(n f:Nat):j6 f (wV L r D DT n):=
 Nu (by simp[wV,BA]) (zfF a _ [] n ov) f
theorem zcz:∀(a n f:Nat),j6 f (qL L r a n)
 |0,_,f=>XZ (by simp[qL,Zl]) rfl f
 |a+1,_,f=>zfG (λn f=>zcz a n f) _ f
theorem j6.down:∀{f:Nat} {T:Tree},j6 (f+1) T->j6 f T
 |0,_,_=>trivial
 |_+1,_,h=>⟨h.1,λt a=>j6.down (h.2 t a)⟩
theorem j6.kid {f:Nat}{T:Tree}(h:j6 (f+1) T):j6 f T.kid:=by unfold Sm.Tree.kid;split;exact h.down;rename_i t a e;exact h.2 t (by rw[e];exact A8 ..)
end
end Ts
namespace Sm
variable {P:Stp->Prop} {B:Tree->Nat->Aq->Nat×Aq}
def TD (P:Stp->Prop)(S:Aq):Prop:=∀s∈S,P s
def Xj (P:Stp->Prop)(B:Tree->Nat->Aq->Nat×Aq)(t:Tree):Prop:=∀h S,TD P S->TD P (B t h S).2
theorem TD.snoc {S:Aq}{s:Stp}(h:TD P S)(b:P s):TD P (S++[s]):=λx a=>by
 obtain a|a:=A7.1 a;exact h x a
 grind
theorem Qm (e:∀x y,P (zy x y)){h:Nat}:∀(c:Au) (b:Nat) (S:Aq),(∀t∈c,Xj P B t)->TD P S->TD P (xh B h c b S).2
 | [],_,_,_,d=>d
 |t :: c,_,S,a,d=>Qm e c _ _ (λy f=>a y (Bm _ f)) ((a t (A8 ..) h S d).snoc (e _ _))
theorem VK:∀(a:Au) (b:Nat) (S:Aq),(∀t∈a,Xj P B t)->TD P S->TD P (Zh B a b S).2
 | [],_,_,_,c=>c
 |t :: a,b,S,h,c=>VK a _ _ (λy d=>h y (Bm _ d)) (h t (A8 ..) b S c)
theorem VL (d:∀x y,P (zy x y)){t:Tree}{h:Nat}(a:Xj P B t):∀(k b:Nat) (S:Aq),TD P S->TD P (vH B t h k b S).2
 |0,_,_,c=>c
 |k+1,b,S,c=>VL d a k _ _ ((a b S c).snoc (d _ _))
theorem Yy {t:Tree}(h:Xj P B t):∀(k b:Nat) (S:Aq),TD P S->TD P (yL B t k b S).2
 |0,_,_,a=>a
 |k+1,b,S,a=>by
  simp only[yL];split;exact h b S a;exact Yy h k _ _ (h b S a)
theorem Kr (c:∀x y,P (zy x y)){t:Tree}{h:Nat}(a:Xj P B t)(S:Aq)(d:TD P S):TD P (xX B t h S).2:=λx b=>by obtain b|rfl:=M3 b;exact a _ _ (d.snoc (c _ _)) x b;exact c _ _
theorem JS (d:∀x y,P (zy x y))(i:∀T h,P (taker T h))(g:∀a h,0<=a->a<=3->P (tester a h)):∀(f:Nat) (T:Tree),j6 f T->Xj P (AH f) T
 |0,_,_=>λ_ _ c=>c
 |f+1,T,b=>by
  intro h S c;have kids:∀t∈T.kids,Xj P (AH f) t:=λt l=>JS d i g f t (b.2 t l);have kid:Xj P (AH f) T.kid:=JS d i g f T.kid b.kid;unfold AH;split;rename_i k;exact c.snoc (g _ _ (b.1 k).1 (b.1 k).2);split;split;exact c;rename_i t m e;rw[e] at kids;exact Qm d m _ _ (λy j=>kids y (Bm _ j)) (kids t (A8 ..) h S c);split;exact VK _ _ _ (λy j=>kids y (List.mem_reverse.1 j)) c;split;split;split;exact Kr d kid S c;exact Yy kid _ _ _ (Kr d kid S c);exact Yy kid _ _ _ (VL d kid _ _ _ c);exact c.snoc (i _ _)
theorem DW {f:Nat}{T:Tree}(h:j6 f T):∀s∈(AR f T).2,s.kind=2->0<=s.asr/\s.asr<=3:=
 JS (P:=λs=>s.kind=2->0<=s.asr/\s.asr<=3) (λ_ _ e=>by simp[zy] at e) (λ_ _ e=>by simp[taker] at e) (λ_ _ a b _=>⟨a,b⟩) f T h 0 [kI] (λs c e=>by obtain rfl:=A5.1 c;simp[kI] at e)
end Sm
end
section
open Go.RowKit
open Sm (Tree)
variable (b)
theorem zcA (r q:Int)(a:Nat->Addr)(w:E)(h:yg w b L n r q)(hS:ym w a)(hb:10<=b)(o:D L<=400)(hn:n<D L)(hF:Ts.Fit L):Uh V 216 #[Ua (I ⟨b,0,U⟩)] w λx w'=>∃cv,xI b L r q a w (qG L r n) (Ud 250 cv) Ui x w'/\((qG L r n).k=0->kQ w' (λg=>k w.heap<=g) (Ud 250 cv) (xS L r n)):=by
 have T:=zd (Tu.start h hS hb);have c1:=h.c1;have f1:=h.f1;clear h hS;have ae:(Ts.behind L (n+1) { data:=#[94] }=n+1/\zi L (n+1)≠94)\/(Ts.behind L (n+1) { data:=#[94] }=n+2/\zi L (n+1)=94):=by by_cases ah:zi L (n+1)=94;right;exact⟨Qy (by rw[zE L (n+1) 94 94 rfl];simp[ah]),ah⟩;left;exact⟨JJ (by rw[zE L (n+1) 94 94 rfl];simp[ah]),ah⟩
 have hN:n+1<=Ts.behind L (n+1) { data:=#[94] }/\Ts.behind L (n+1) { data:=#[94] }<=D L:=by obtain⟨e,_⟩|⟨e,j⟩:=ae;omega;have:n+1<D L:=zG oa;omega
 have HP:H (qG L r n=ja L r (D L+1-n) (Ts.behind L (n+1) { data:=#[94] })):=by unfold qG;obtain⟨e,j⟩|⟨e,j⟩:=ae;rw[e,iN j];rfl;rw[e,IN j];rfl
 have HT:H (xS L r n=vV (zD L (n+1) { data:=#[94] }) (qV L r (D L+1-n) (Ts.behind L (n+1) { data:=#[94] }) [] []).1 (qV L r (D L+1-n) (Ts.behind L (n+1) { data:=#[94] }) [] []).2):=by unfold xS;obtain⟨e,j⟩|⟨e,j⟩:=ae;rw[e,iN j,zE L (n+1) 94 94 rfl];simp[j,H];rw[e,IN j,zE L (n+1) 94 94 rfl];simp[j,H]
 clear ae;go_enter func216,ntmps216;go_wp2_with(go_at_call 101;refine(F9 (n:=n+1) _ (T.N1 _ _ oa) o oa od).mono ?_;rintro e c ⟨rfl,d⟩;have T:=zd d;have c1:=d.c1;have f1:=d.f1);generalize aR:Ts.behind L (n+1) { data:=#[94] }=N0 at *;generalize zD L (n+1) { data:=#[94] }=neg at *;have T1:=zd T;clear c1 f1;have am:k w.heap<=k c.heap:=T1.on.size;have ao:yW (dB c (Ub #[C neg,K U 0 0,K U 0 0] 250)) (k c.heap) neg [] [] (K U 0 0) (K U 0 0):=
  ⟨zj c _ rfl _ _ 0 _ rfl,zj c _ rfl _ _ 1 _ rfl,zj c _ rfl _ _ 2 _ rfl,A0 _ _ _ _,A0 _ _ _ _,zt c _ rfl _ _ 1,zt c _ rfl _ _ 2⟩
 have T2:Tu (k c.heap) (dB c (Ub #[C neg,K U 0 0,K U 0 0] 250)) b L N0 r q a (dB c (Ub #[C neg,K U 0 0,K U 0 0] 250)):=
  have t:=T1.calm Ag
  ⟨t.rd,t.se,zg.refl _ _,t.hb,T1.rd.lt,ov⟩
 generalize hW:dB c (Ub #[C neg,K U 0 0,K U 0 0] 250)=W at *;have au:zg (zr b) w W:=by rw[<-hW];exact(Own.to T1.on).alloc _
 have u:=zd au;have T2:=zd T2;have az:=zd ao;clear ao hW au;generalize aH:k c.heap=cb at *;clear aH;go_loopw[5] (λ_ wr=>∃(m f:Nat) (R:Ai) (S:Ar) (N P:Y),m<=D L/\(D R)<=m/\(D S)<=m/\H (D L<m+f)/\H (Tu cb W b L m r q a wr)/\H (yW wr cb neg R S N P)/\H (qG L r n=ja L r f m)/\H (xS L r n=vV neg (qV L r f m R S).1 (qV L r f m R S).2)) (λ_ wr=>D L-rdN wr b);exact⟨N0,D L+1-n,[],[],_,_,hN.2,ov,ov,(by show _<_;omega),T2,az,HP,HT⟩;have⟨m,f,R,S,N,P,hm,hR,hS,hf,T,p,X,HT⟩:=hrel;obtain⟨f,rfl⟩:∃f',f=f'+1:=⟨f-1,by have:=zb hf;omega⟩
 have aN:=T.rdN;by_cases i:zi L m=93
 .have m1:zD L m { data:=#[93] }=G:=(by rw[zE L m 93 93 rfl];simp[i]);have l:H (qG L r n=good 1 (m+1)):=(by rw[zb X];simp only[ja];rw[IN i];rfl);have aj:H (xS L r n=vV neg R S):=(by rw[zb HT];simp only[qV];rw[IN i];rfl);clear i;have T0:=T;have T:=zd (Tu.start T0.rd T0.se hb);have aG:=T0.lt;go_wp2_with((go_at_call 101;refine(vT (n:=m) _ T o oa od ox).mono ?_;rintro e c ⟨rfl,d⟩;have d:Tu _ _ b L ((m)+1) r q a c:=d;have T:=zd d;have c1:=d.c1;have f1:=d.f1);(have B:=p.step aG T);(have k0:=B.k0);(have k1:=B.k1);(have k2:=B.k2);(have aA:=zd B);(clear B));go_ret2;refine⟨_,kp l rfl (Own.back u (T0.join T).on am) T.rd,λ_=>?_⟩;rw[zb aj];have aq:=zb aA;exact O (O (O (O ⟨neg,R,S,N,P,rfl,rfl,(zci aq.o1 (λe=>by rw[Cb e];rfl)).mono (λg _ hg=>oa),(zci aq.o2 (λe=>by rw[Cb e];rfl)).mono (λg _ hg=>oa)⟩)))
 have m1:zD L m { data:=#[93] }=Z:=(by rw[zE L m 93 93 rfl];simp[i]);by_cases af:D L<=m
 .have aW:m=D L:=oa;have he:((m:Int) == (D L:Int))=G:=ou;have l:H (qG L r n=Ts.bad 3 (zA L r m) m):=(by rw[zb X];simp only[ja];rw[iN i,IN af,Zq af];rfl);clear i;go_wp2_with(first|(go_at_call 101;refine(xJ (n:=m) _ T o oa od ox).mono ?_;rintro e c ⟨rfl,F,rfl⟩)|(go_at_call 53;refine(XL (n:=m) (T.drewN _)).mono ?_;rintro e c ⟨rfl,F,rfl⟩)|(go_at_call 54;refine(QV (n:=m) (T.drewN _) o oa).mono ?_;rintro e c ⟨v,rfl,hv,d⟩;have T:=zd d;have c1:=d.c1;have f1:=d.f1));go_ret2;exact⟨Ui,vK l od (Own.back u T.on am) T.rd (hv.base u.size),λe=>by rw[zb l] at e;exact absurd e (show(3:Nat)≠0 by decide)⟩
 have he:((m:Int) == (D L:Int))=Z:=ou;have ag:m<D L:=oa;have aL:=zfp (L:=L) (r:=r) m ag;have aX:=kf (L:=L) (r:=r) m ag;by_cases s:(qO L r m).k=0
 .have l:H (qG L r n=ja L r f (qO L r m).n):=(by rw[zb X];simp only[ja];rw[iN i,iN af,iN (by simp[s])];rfl);have aj:H (xS L r n=vV neg (qV L r f (qO L r m).n (ZG L r m R) (ZH L r m S)).1 (qV L r f (qO L r m).n (ZG L r m R) (ZH L r m S)).2):=(by rw[zb HT];simp only[qV];rw[iN i];rfl);clear i;go_wp2_with(first|(go_at_call 101;refine(xJ (n:=m) _ T o oa od ox).mono ?_;rintro e c ⟨rfl,F,rfl⟩)|(go_at_call 53;refine(XL (n:=m) (T.drewN _)).mono ?_;rintro e c ⟨rfl,F,rfl⟩)|(go_at_call 242;refine(Ql b L m r q a cb W _ neg R S N P (T.drewN _) (by first|exact p|exact p.keep ((zg.refl (λ_=>False) _).drewN _) (λ_ _ f=>f)|exact p.keep (((zg.refl (λ_=>False) _).drewN _).drewN _) (λ_ _ f=>f)) o ag oa hF oa oa).mono ?_;rintro e w9 ⟨d,z⟩;obtain⟨rfl,u1,u2,ap⟩:=Xb z s;have y:=zd d;have aB:=zd ap;clear z ap));have aT:=Fx (L:=L) (r:=r) m R;have aU:=Fw (L:=L) (r:=r) m S;exact⟨⟨(qO L r m).n,f,_,_,u1,u2,aL.2,oa,oa,(by have:=zb hf;show _<_;omega),y,aB,l,aj⟩,by rw[(zb y).rdN,aN];omega⟩
 have l:H (qG L r n=qO L r m):=(by rw[zb X];simp only[ja];rw[iN i,iN af,IN s];rfl);clear i;go_wp2_with(first|(go_at_call 101;refine(xJ (n:=m) _ T o oa od ox).mono ?_;rintro e c ⟨rfl,F,rfl⟩)|(go_at_call 53;refine(XL (n:=m) (T.drewN _)).mono ?_;rintro e c ⟨rfl,F,rfl⟩)|(go_at_call 242;refine(Ql b L m r q a cb W _ neg R S N P (T.drewN _) (by first|exact p|exact p.keep ((zg.refl (λ_=>False) _).drewN _) (λ_ _ f=>f)|exact p.keep (((zg.refl (λ_=>False) _).drewN _).drewN _) (λ_ _ f=>f)) o ag oa hF oa oa).mono ?_;rintro e w9 ⟨d,z⟩;obtain⟨xv,rfl,hv⟩:=ND z s;have⟨gv,aK⟩:=hv.form;subst aK;have y:=zd d;clear z));go_ret2;rw[zb l];exact⟨Ui,xI.no s (Own.back u y.on am) y.rd (hv.base u.size),λe=>absurd e s⟩
theorem wX (r l:Int)(a:Nat->Addr)(w:E)(h:yg w b L n r l)(q:ym w a)(t:10<=b)(g:D L<=400)(B:n<=D L):Uh V 181 #[Ua (I ⟨b,0,U⟩)] w λx s=>zg (zr b) w s/\yg s b L (n+Bn L n) r l/\((Bn L n≠0/\x=.returned (Ue #[M J (By L n),C G]))\/(Bn L n=0/\x=.returned (Ue #[M J 0,C Z]))):=by
 have T:=zd (Tu.start h q t);by_cases j:zi L n=94
 .have f:H (Bn L n=1):=by unfold Bn;rw[IN (Q j)];rfl
  have i:H (By L n=0):=by unfold By;rw[IN j];rfl
  have u:zD L n { data:=#[94] }=G:=by rw[zE L n 94 94 rfl];simp[j]
  go_enter func181,ntmps181;go_wp2_with(first|(go_at_call 101;refine(vT (n:=n) _ T g oa od ox).mono ?_;rintro e d ⟨rfl,c⟩;have c:Tu _ _ b L ((n)+1) r l a d:=c;have T:=zd c;have c1:=c.c1;have f1:=c.f1));go_ret2;rw[zb f,zb i];exact⟨Own.to T.on,T.rd,Q ⟨od,rfl⟩⟩
 have u:zD L n { data:=#[94] }=Z:=by rw[zE L n 94 94 rfl];simp[j]
 by_cases m:zi L n=36
 .have f:H (Bn L n=1):=(by unfold Bn;rw[IN (O m)];rfl);have i:H (By L n=1):=(by unfold By;rw[iN j,IN m];rfl);have v:zD L n { data:=#[36] }=G:=(by rw[zE L n 36 36 rfl];simp[m]);go_enter func181,ntmps181;go_wp2_with(first|(go_at_call 101;refine(xJ (n:=n) _ (by first|exact T|exact T.drewN _) g oa od ox).mono ?_;rintro e d ⟨rfl,p,rfl⟩)|(go_at_call 101;refine(vT (n:=n) _ (T.drewN _) g oa od ox).mono ?_;rintro e d ⟨rfl,c⟩;have c:Tu _ _ b L ((n)+1) r l a d:=c;have T:=zd c;have c1:=c.c1;have f1:=c.f1));go_ret2;rw[zb f,zb i];exact⟨Own.to T.on,T.rd,Q ⟨od,rfl⟩⟩
 have v:zD L n { data:=#[36] }=Z:=(by rw[zE L n 36 36 rfl];simp[m]);by_cases k:zi L n=92/\zi L (n+1)=98
 .have f:H (Bn L n=2):=(by unfold Bn;rw[iN oa,IN ⟨k.1,Q k.2⟩];rfl);have i:H (By L n=2):=(by unfold By;rw[iN j,iN m,IN k.2];rfl);have y:zD L n { data:=#[92,98] }=G:=(by rw[xi L n 92 98 92 98 rfl rfl];simp[k]);go_enter func181,ntmps181;go_wp2_with(first|(go_at_call 101;refine(xJ (n:=n) _ (by first|exact T|exact T.drewN _) g oa od ox).mono ?_;rintro e d ⟨rfl,p,rfl⟩)|(go_at_call 101;refine(vT (n:=n) _ (T.drewN _) g oa od ox).mono ?_;rintro e d ⟨rfl,c⟩;have c:Tu _ _ b L ((n)+2) r l a d:=c;have T:=zd c;have c1:=c.c1;have f1:=c.f1));go_ret2;rw[zb f,zb i];exact⟨Own.to T.on,T.rd,Q ⟨od,rfl⟩⟩
 have y:zD L n { data:=#[92,98] }=Z:=(by rw[xi L n 92 98 92 98 rfl rfl];simp;omega);by_cases o:zi L n=92/\zi L (n+1)=66
 .have f:H (Bn L n=2):=(by unfold Bn;rw[iN oa,IN ⟨o.1,O o.2⟩];rfl);have i:H (By L n=3):=(by unfold By;rw[iN j,iN m,iN oa];rfl);have z:zD L n { data:=#[92,66] }=G:=(by rw[xi L n 92 66 92 66 rfl rfl];simp[o]);go_enter func181,ntmps181;go_wp2_with(first|(go_at_call 101;refine(xJ (n:=n) _ (by first|exact T|exact T.drewN _) g oa od ox).mono ?_;rintro e d ⟨rfl,p,rfl⟩)|(go_at_call 101;refine(vT (n:=n) _ (T.drewN _) g oa od ox).mono ?_;rintro e d ⟨rfl,c⟩;have c:Tu _ _ b L ((n)+2) r l a d:=c;have T:=zd c;have c1:=c.c1;have f1:=c.f1));go_ret2;rw[zb f,zb i];exact⟨Own.to T.on,T.rd,Q ⟨od,rfl⟩⟩
 have z:zD L n { data:=#[92,66] }=Z:=(by rw[xi L n 92 66 92 66 rfl rfl];simp;omega);have f:H (Bn L n=0):=(by unfold Bn;rw[iN oa,iN oa];rfl);go_enter func181,ntmps181;go_wp2_with(first|(go_at_call 101;refine(xJ (n:=n) _ (by first|exact T|exact T.drewN _) g oa od ox).mono ?_;rintro e d ⟨rfl,p,rfl⟩));go_ret2;rw[zb f];exact⟨Own.to (T.drewN _).on,(T.drewN _).rd,O ⟨rfl,rfl⟩⟩
def wY (b:Nat)(L:Ai)(r c:Int)(a:Nat->Addr)(D:Nat->Ts.Out)(DT:Nat->Tree):Prop:=∀(n:Nat) (w:E),yg w b L n r c->ym w a->n<Bc L->Uh V 215 #[Ua (I ⟨b,0,U⟩)] w (xe b L r c a w (D n) (DT n))
theorem D1 (m:Bool)(c:Int):∃T y,BB m c=Ud T y/\∀w A,kQ w A (Ud T y) (BJ m c):=by cases m;exact⟨_,_,rfl,λw A=>O (O (Q ⟨_,rfl,rfl⟩))⟩;exact⟨_,_,rfl,λw A=>O (O (O (Q ⟨_,rfl,rfl⟩)))⟩
theorem VM (r p:Int)(a:Nat->Addr)(D:Nat->Ts.Out)(DT:Nat->Tree)(w:E)(h:yg w b L n r p)(t:ym w a)(u:10<=b)(j:Bc L<=400)(y:n<Bc L)(F:Ts.Fit L)(N:wY b L r p a D DT):Uh V 182 #[Ua (I ⟨b,0,U⟩)] w (xe b L r p a w (zK L r D n) (xj L r DT n)):=by
 have T:=zd (Tu.start h t u);have l:=zd h;have s:=zd t;have c1:=h.c1;have f1:=h.f1;have HG:=zd N;clear h t N;cases hw:Yr (zi L n)
 .have z:(zi L n == 42)=Z/\(zi L n == 43)=Z/\(zi L n == 63)=Z/\(zi L n == 123)=Z/\(zi L n == 125)=Z/\(zi L n == 93)=Z:=by unfold Yr at hw;simpa [and_assoc] using hw
  have⟨X,q2,q3,q4,q5,q6⟩:=z;by_cases c:zi L n=40
  .have g:H (zK L r D n=D n):=(by unfold zK;rw[iN (by simp[hw]),IN c];rfl);have m:H (xj L r DT n=DT n):=(by unfold xj;rw[IN c];rfl);have aj:(zi L n == 40)=G:=(by simp[c]);clear c hw;go_enter func182,ntmps182;go_wp2_with(first|(go_at_call 146;refine AL (xd (n:=n) T j oa) ?_)|(go_at_call 215;refine(zb HG n _ l s y).mono ?_;intro e w1 f;obtain⟨S,W,rfl⟩:=f.pair;have o:=zd f;clear f));go_ret2;rw[zb g,zb m];exact o
  have aj:(zi L n == 40)=Z:=(by simp[c]);by_cases d:zi L n=91
  .have g:H (zK L r D n=Ts.one (qG L r n)):=(by unfold zK;rw[iN (by simp[hw]),iN c,IN d];rfl);have m:H (xj L r DT n=xS L r n):=(by unfold xj;rw[iN c,IN d];rfl);have ak:(zi L n == 91)=G:=(by simp[d]);clear d hw c;go_enter func182,ntmps182;go_wp2_with(first|(go_at_call 146;refine AL (xd (n:=n) T j oa) ?_)|(go_at_call 216;refine(zcA b L n r p a _ l s u j y F).mono ?_;rintro e w1 ⟨cv,k,q⟩;have f:=k.Oq q;obtain⟨S,W,rfl⟩:=f.pair;have o:=zd f;clear f k q));go_ret2;rw[zb g,zb m];exact o
  have ak:(zi L n == 91)=Z:=(by simp[d]);by_cases i:zi L n=92
  .have g:H (zK L r D n=Ts.one (xR L r n)):=(by unfold zK;rw[iN (by simp[hw]),iN c,iN d,IN i];rfl);have m:H (xj L r DT n=BJ (jy (zi L (n+1))) (xR L r n).v):=(by unfold xj;rw[iN c,iN d,IN i];rfl);have al:(zi L n == 92)=G:=(by simp[i]);clear d hw c i;have⟨TT,yy,P,q⟩:=D1 (jy (zi L (n+1))) (xR L r n).v;have Hy:=zd P;have ah:=zd q;clear P q;go_enter func182,ntmps182;go_wp2_with(first|(go_at_call 146;refine AL (xd (n:=n) T j oa) ?_)|(go_at_call 217;refine(Y7 b L n r p a _ l s u j y F).mono ?_;intro e w1 k;rw[zb Hy] at k;have f:=k.Oq (λ_=>zb ah _ _);obtain⟨S,W,rfl⟩:=f.pair;have o:=zd f;clear f k));go_ret2;rw[zb g,zb m];exact o
  have al:(zi L n == 92)=Z:=(by simp[i]);have g:H (zK L r D n=good 1 (n+1)):=(by unfold zK;rw[iN (by simp[hw]),iN c,iN d,iN i];rfl);have af:H (zi L n=46->xj L r DT n=Zl):=λe=>(by unfold xj;rw[iN c,iN d,iN i,IN e]);have ag:H (zi L n≠46->xj L r DT n=ju (zi L n)):=λe=>(by unfold xj;rw[iN c,iN d,iN i,iN e]);clear d hw c i;have am:(zi L n == 46)=G\/(zi L n == 46)=Z:=(by cases(zi L n == 46)<;>simp);obtain x|x:=am
  .go_enter func182,ntmps182;go_wp2_with(first|(go_at_call 146;refine AL (xd (n:=n) T j oa) ?_));go_ret2;rw[zb af (by simpa using x)];exact xe.good g ((zg.refl _ _).NS _ _) (l.N1 _ _ oa) (zC.leaf (O (Q ⟨rfl,rfl⟩)))
  go_enter func182,ntmps182;go_wp2_with(first|(go_at_call 146;refine AL (xd (n:=n) T j oa) ?_));go_ret2;rw[zb ag (by simpa using x)];exact xe.good g ((zg.refl _ _).NS _ _) (l.N1 _ _ oa) (zC.leaf (O (O (Q ⟨_,rfl,rfl⟩))))
 have g:H (zK L r D n=Ts.bad 3 (zA L r n) n):=by unfold zK;rw[IN hw];rfl
 have z:(zi L n == 42)=G\/(zi L n == 42)=Z/\((zi L n == 43)=G\/(zi L n == 43)=Z/\((zi L n == 63)=G\/(zi L n == 63)=Z/\((zi L n == 123)=G\/(zi L n == 123)=Z/\((zi L n == 125)=G\/(zi L n == 125)=Z/\(zi L n == 93)=G)))):=by unfold Yr at hw;cases hq1:(zi L n == 42)<;>cases hq2:(zi L n == 43)<;>cases hq3:(zi L n == 63)<;>cases hq4:(zi L n == 123)<;>cases hq5:(zi L n == 125)<;>cases hq6:(zi L n == 93)<;>simp_all
 clear hw;obtain X|⟨X,q2|⟨q2,q3|⟨q3,q4|⟨q4,q5|⟨q5,q6⟩⟩⟩⟩⟩:=z
 all_goals
  go_enter func182,ntmps182;go_wp2_with(first|(go_at_call 146;refine AL (xd (n:=n) T j oa) ?_)|(go_at_call 54;refine(QV (n:=n) T j oa).mono ?_;rintro e wq ⟨v,rfl,hv,B⟩;have T:=zd B;have c1:=B.c1;have f1:=B.f1));go_ret2;exact xe.bad g od (Own.to T.on) T.rd hv
variable {b L}
theorem TW.Oq {r p:Int}{a:Nat->Addr}{w w1 s:E}{T:TypeId}{y:Y}{z t:Tree}{F n:Nat}{x:Ending}{o:Ts.Out}(aa:b<k w.heap)(l:zg (zr b) w w1)(hs:zC F w1 (λg=>k w.heap<=g) (Ud T y) z)(h:TW b L r p a w1 (Ud T y) (zx L r n) x s)(P:(zx L r n).1=Z->o.k=0/\t=z/\o.n=(zx L r n).2.1.n) (S:(zx L r n).1=G->(zx L r n).2.1.k≠0->o=(zx L r n).2.1)(W:(zx L r n).1=G->(zx L r n).2.1.k=0->(∃v,o=good v (Zt L (zx L r n).2.1.n))/\t=vW z (zx L r n).2.1.v (zx L r n).2.2):xe b L r p a w o t x s:=by have⟨m,h⟩:=h;have q:=zC.keep m (A:=λg=>k w.heap<=g) (λg X e=>by unfold zr at e;subst e;exact absurd aa (Nat.not_lt.2 X)) F _ _ hs;obtain⟨d,j,f⟩|⟨d,i,j,f⟩|⟨d,i,f,v,j,c⟩:=h;have⟨u,B,N⟩:=P d;exact⟨l.trans m,by rw[N];exact f,Q ⟨u,T,y,F,j,by rw[B];exact q⟩⟩;subst j;have⟨⟨vv,ho⟩,ht⟩:=W d i;rw[ht];refine xe.good (F:=F+1) ho (l.trans m) f ?_;have c:=Vz (L:=L) (r:=r) n d i;exact O (O (O ⟨_,_,_,z,rfl,rfl,q,c.1,c.2.1,c.2.2.1,c.2.2.2.1,c.2.2.2.2⟩));rw[S d i];exact⟨l.trans m,f,O ⟨i,v,j,c.base l.size⟩⟩
theorem TW.pairT {r c:Int}{a:Nat->Addr}{w d:E}{p:Y}{o:Bool×Ts.Out×Int}{x:Ending}(h:TW b L r c a w p o x d):∃p q,x=.returned (Ue #[p,q]):=by obtain⟨_,⟨_,h,_⟩|⟨_,_,h,_⟩|⟨_,_,_,v,h,_⟩⟩:=h;exact⟨_,_,h⟩;exact⟨_,_,h⟩;exact⟨_,_,h⟩
theorem Fl {k:Nat}{x:Ending}{c:Int}(h:(k≠0/\x=.returned (Ue #[M J c,C G]))\/(k=0/\x=.returned (Ue #[M J 0,C Z])))(a:k=0):True/\x=.returned (Ue #[M J 0,C Z]):=by grind
theorem GR {k:Nat}{x:Ending}{c:Int}(h:(k≠0/\x=.returned (Ue #[M J c,C G]))\/(k=0/\x=.returned (Ue #[M J 0,C Z])))(a:k≠0):True/\x=.returned (Ue #[M J c,C G]):=by grind
variable (b L)
theorem zan (r g:Int)(a:Nat->Addr)(D:Nat->Ts.Out)(DT:Nat->Tree)(w:E)(h:yg w b L n r g)(hS:ym w a)(i:10<=b)(o:Bc L<=400)(S:n<Bc L)(N:Ts.Fit L)(hG:wY b L r g a D DT)(X:Cr L D):Uh V 147 #[Ua (I ⟨b,0,U⟩)] w (xe b L r g a w (yJ L r D n) (jg L r D DT n)):=by
 have am:=h.lt;have z:=zd h;have m:=zd hS;have HG:=zd hG;have HD:=zd X;by_cases c:Bn L n=0
 .have ac:=Vy (r:=r) HD n S;by_cases l:(zK L r D n).k=0
  .go_enter func147,ntmps147;go_wp2_with(first
    |(go_at_call 181;refine(wX b L n r g a _ z m i o oa).mono ?_;rintro e w1 ⟨d,f,j⟩;rw[c] at f;obtain⟨_,rfl⟩:=Fl j c;have s:=zd f;have F:=zd (m.NS d i);have q:=zd d)
    |(go_at_call 182;refine(VM b L n r g a D DT _ s F i o S N HG).mono ?_;intro e w2 u;obtain⟨T2,y2,F2,rfl,ad,p,t⟩:=jD (u.after q) l;have aj:=zd ad;have y:=zd p;have B:=zd t;have ah:=zd (m.NS p i))
    |(go_at_call 183;refine(Vx b L (zK L r D n).n r g a _ T2 y2 B ah i o ac.2.1 N).mono ?_;intro e w3 T;obtain⟨p1,p2,rfl⟩:=T.pairT;have Hq:=zd T))
   go_ret2;refine Hq.Oq am y aj ?_ ?_ ?_;intro W;have an:=(W8 (L:=L) (r:=r) (zK L r D n).n ac.2.1).2.2 W;unfold yJ;rw[iN (by simp[c]),iN (by simp[l]),IN W,an];refine⟨l,?_,rfl⟩;unfold jg;rw[iN (by simp[c]),IN W];intro v P;unfold yJ;rw[iN (by simp[c]),iN (by simp[l]),iN (by simp[v]),IN P];intro v P;unfold yJ;rw[iN (by simp[c]),iN (by simp[l]),iN (by simp[v]),iN (by simp[P])];refine⟨⟨_,rfl⟩,?_⟩;unfold jg;rw[iN (by simp[c]),iN (by simp[v])]
  have x:H (yJ L r D n=zK L r D n):=(by unfold yJ;rw[iN (by simp[c]),IN l];rfl);go_enter func147,ntmps147;go_wp2_with(first
   |(go_at_call 181;refine(wX b L n r g a _ z m i o oa).mono ?_;rintro e w1 ⟨d,f,j⟩;rw[c] at f;obtain⟨_,rfl⟩:=Fl j c;have s:=zd f;have F:=zd (m.NS d i);have q:=zd d)
   |(go_at_call 182;refine(VM b L n r g a D DT _ s F i o S N HG).mono ?_;intro e w2 u;obtain⟨g2,rfl,ae,p,t⟩:=XV (u.after q) l;have ak:=zd ae;have y:=zd p;have B:=zd t))
  go_ret2;rw[zb x];exact⟨y,B,O ⟨l,_,rfl,ak⟩⟩
 have x:H (yJ L r D n=good 1 (n+Bn L n)):=by unfold yJ;rw[IN c];rfl
 go_enter func147,ntmps147;go_wp2_with(go_at_call 181;refine(wX b L n r g a _ z m i o oa).mono ?_;rintro e w1 ⟨d,f,j⟩;obtain⟨_,rfl⟩:=GR j c;have s:=zd f;have q:=zd d);go_ret2;have ht:jg L r D DT n=Zk (By L n):=by unfold jg;rw[IN c]
 rw[ht];exact xe.good x q s (zC.leaf (Q ⟨_,rfl,rfl⟩))
def Yz (base:Nat)(a:Y)(g:Nat):Prop:=base<=g/\dH a≠I g
theorem zao {b base:Nat}{wr i W j:E}{c sv' x:Y}{T:TypeId}{xs:An}{zs:Au}{z:Tree}{F d:Nat}(r:base<=X wr.heap)(B:b<base)(t:dA wr base T 1 c (D xs) xs)(v:vM F wr (Yz base c) xs zs)(p:zg (zr b) wr i)(w:zC d i (λg=>X wr.heap<=g) x z)(q:zke i W) (a:W.grownBy j (dH c)) (u:∀k,dH sv'=I k->dH c=I k\/X W.heap<=k):vM (max F d) j (Yz base sv') (xs++[x]) (zs++[z]):=by
 have l:vM F i (Yz base c) xs zs:=v.keep p (λg a e=>by unfold zr at e;have:=a.1;omega);have y:zC d i (Yz base c) x z:=zC.mono (λg _ a=>⟨AP r a,λe=>by have:=(zh t g e).2;omega⟩) d x z w;have m:=(l.append y).keep q (λ_ _ f=>f);have n:vM (max F d) W (λg=>Yz base c g/\g<X W.heap) (xs++[x]) (zs++[z]):=m.mono (λg s a=>⟨a,s⟩);have o:=n.keep (zg.N3 a) (λg a e=>a.1.2 e);exact o.mono (λg _ a=>⟨a.1.1,λe=>by
  obtain h|h:=u g e;exact a.1.2 h;have:=a.2;omega⟩)
variable {w}
theorem zfH {a:Y}{xs:An}(h:w.ownsRow base T 1 a (D xs) xs):Zu w (λg=>base<=g) a xs:=by
 have k:=zh h;have f:=@World.ownsRow.cells w base T 1 a (D xs) xs h;obtain⟨rfl,c⟩|⟨g,b,m,rfl,d,n,l,_⟩:=h.2;exact Q ⟨rfl,Cb c⟩;exact O ⟨g,b,rfl,d,l,(k g rfl).2,λj x i=>by
  have:=f (g:=g) rfl j x i;have e:(⟨g,0,U⟩:Addr).add j=⟨g,j,U⟩:=(by unfold Addr.add;split<;>simp_all);rw[e] at this;exact this⟩
theorem Tryz.OQ:(prog.info? 89).map (λi=>(i.zero,i.size,i.bytes))=I (I Ui,1,16):=om
theorem QD (r q:Int)(a:Nat->Addr)(D:Nat->Ts.Out)(DT:Nat->Tree)(w:E)(h:yg w b L n r q)(hS:ym w a)(t:10<=b)(N:Bc L<=400)(hn:n<=Bc L)(hF:Ts.Fit L)(hG:wY b L r q a D DT)(hD:Cr L D):Uh V 100 #[Ua (I ⟨b,0,U⟩)] w (xe b L r q a w (zR L r D n) (qe L r D DT n)):=by
 have⟨i0,hi,a3,a4,a5⟩:=info_parts Tryz.OQ;have aY:=h.lt;have HS:=zd hS;have HG:=zd hG;have HD:=zd hD;clear hS hG hD;go_enter func100,ntmps100;go_wp2;go_loopw[4] (λsv wr=>∃(m f F:Nat) (sz:Int) (l:An) (s:Au),m<=Bc L/\(Bc l)<=m/\H (Bc L<m+f)/\H (yg wr b L m r q)/\H (zg (zr b) w wr)/\H (dA wr (k w.heap) 89 1 sv (Bc l) l)/\H (vM F wr (Yz (k w.heap) sv) l s)/\H (zR L r D n=xG L r D f sz m)/\H (qe L r D DT n=ZX (jC L r D DT f s m))) (λ_ wr=>Bc L-rdN wr b);exact⟨n,Bc L+1-n,0,0,[],[],hn,ov,(by show _<_;omega),h,zg.refl _ _,A0 _ _ _ _,⟨rfl,λj x z u=>by simp at u⟩,rfl,rfl⟩;have⟨m,f,F,sz,l,s,hm,bi,hf,HR,o,p,an,HF,HT⟩:=hrel;obtain⟨f,rfl⟩:∃f',f=f'+1:=⟨f-1,by have:=zb hf;omega⟩
 have T:=zd (Tu.start HR (HS.NS o t) t);have a0:=T.rdN;cases hst:Zv L m
 .have ah:m<Bc L:=(by unfold Zv at hst;simp at hst;omega);have he:((m:Int) == (Bc L:Int))=Z:=ou;have bf:(zi L m != 124)=G:=(by unfold Zv at hst;simp at hst ⊢;omega);have bg:(zi L m != 41)=G:=(by unfold Zv at hst;simp at hst ⊢;omega);have X:=VA (r:=r) HD m ah;by_cases i:(yJ L r D m).k=0
  .have y:H (zR L r D n=xG L r D f (min (sz+(yJ L r D m).v) 301) (yJ L r D m).n):=(by rw[zb HF];simp only[xG];rw[iN (by simp[hst]),iN (by simp[i])];rfl);have ae:H (qe L r D DT n=ZX (jC L r D DT f (s++[jg L r D DT m]) (yJ L r D m).n)):=(by rw[zb HT];simp only[jC];rw[iN (by simp[hst])];rfl);obtain⟨sa,sn,sc,rfl⟩:=zq p;go_wp2_with(first
    |(go_at_call 53;refine(XL (n:=m) T).mono ?_;rintro e wq ⟨rfl,qq,rfl⟩)
    |(go_at_call 146;refine AL (xd (n:=m) (T.drewN _) N oa) ?_)
    |(go_at_call 147;refine(zan b L m r q a D DT _ (Tu.rd (n:=m) (T.drewN _)) (Tu.se (n:=m) (T.drewN _)) t N ah hF HG HD).mono ?_;intro e S d;obtain⟨T3,y3,F3,rfl,aB,c,P⟩:=jD d i;have c:zg (zr b) wr S:=((zg.refl (zr b) wr).drewN _).trans c;have aP:H (zC F3 S (λg=>k wr.heap<=g) (Ud T3 y3) (jg L r D DT m)):=aB;have W:=zd c;have ad:=zd P;have bh:=c.size;have aN:=zd (zk p c (λg d e=>by unfold zr at e;have:=(zh p g d).1;omega));clear d aB c P)
    |(at_builtin;refine yz _ rfl _ _ 252 rfl (k w.heap) 89 i0 Ui 1 16 underlying252 hi a3 a4 a5 rfl od _ _ l rfl (AZ aN _) _ 1 1 [Ud T3 y3] rfl rfl (cell_one_new _ _ _) (λx u=>by simp at u;subst u;rfl) Ac oa (by simp;have:=o.size;omega) ?_;intro v' w4 aA ay aC;have aO:=zd aA;have af:=zd ay;have aQ:=zd aC;clear aA ay aC))
   have a1:=o.size;have au:zg (zr b) w w4:=((o.trans W).alloc _).grown af (λj hj=>Or.inr (zh p j hj).1);have az:∀g,g<=b->¬((K sa sn sc).ownBlock=I g):=λg d e=>(by have:=(zh p g e).1;omega);have av:yg w4 b L (yJ L r D m).n r q:=(ad.keep ((zg.refl (λ_=>False) S).alloc _) id (λ_ _ f=>f)).keep (zg.N3 af) (az b (AD _)) (λg d=>az g oa);have T4:=Tu.start av (HS.NS au t) t;refine⟨⟨(yJ L r D m).n,f,max F F3,_,l++[Ud T3 y3],s++[jg L r D DT m],X.2.1,by have:=(X.2.2 i).1;simp;omega,(by have:=(X.2.2 i).1;have:=zb hf;show _<_;omega),av,au,(by show dA _ _ _ _ _ _ _;rw[AO];exact aO),zao a1 aY p an W aP Ag af aQ,y,ae⟩,by rw[T4.rdN,a0];have:=(X.2.2 i).1;omega⟩
  have y:H (zR L r D n=yJ L r D m):=(by rw[zb HF];simp only[xG];rw[iN (by simp[hst]),IN i];rfl);go_wp2_with(first
   |(go_at_call 53;refine(XL (n:=m) T).mono ?_;rintro e wq ⟨rfl,qq,rfl⟩)
   |(go_at_call 146;refine AL (xd (n:=m) (T.drewN _) N oa) ?_)
   |(go_at_call 147;refine(zan b L m r q a D DT _ (Tu.rd (n:=m) (T.drewN _)) (Tu.se (n:=m) (T.drewN _)) t N ah hF HG HD).mono ?_;intro e S d;obtain⟨g3,rfl,aE,c,P⟩:=XV d i;have aR:=zd aE;have W:=zd c;have ad:=zd P;clear d aE c P))
  go_ret2;rw[zb y];have c:zg (zr b) w S:=(o.drewN _).trans W;exact⟨c,ad,O ⟨i,_,rfl,aR.base o.size⟩⟩
 (have y:H (zR L r D n=good sz m):=(by rw[zb HF];simp only[xG];rw[IN hst];rfl);have ae:H (qe L r D DT n=ZX s):=(by rw[zb HT];simp only[jC];rw[IN hst];rfl);have aV:((m:Int) == (Bc L:Int))=G\/(((m:Int) == (Bc L:Int))=Z/\(zi L m != 124)=Z)\/(((m:Int) == (Bc L:Int))=Z/\(zi L m != 124)=G/\(zi L m != 41)=Z):=by by_cases h1:m=Bc L;left;simp[h1];right;by_cases h2:zi L m=124;left;exact⟨by simp;omega,by simp[h2]⟩;right;exact⟨by simp;omega,by simp[h2],by unfold Zv at hst;simp at hst ⊢;omega⟩);obtain k1|⟨k1,k2⟩|⟨k1,k2,k3⟩:=aV
 all_goals
  go_wp2_with(first|(go_at_call 53;refine(XL (n:=m) T).mono ?_;rintro e wq ⟨rfl,qq,rfl⟩)|(go_at_call 146;refine AL (xd (n:=m) (T.drewN _) N oa) ?_));go_ret2;have aD:=an.mono (B:=λg=>k w.heap<=g) (λg _ d=>d.1);rw[zb ae];refine xe.good (F:=F+1) y (o.drewN _) (HR.drewN _) ?_;exact O (O (Q ⟨_,l,s,rfl,rfl,(zfH p).keep ((zg.refl (λ_=>False) _).drewN _) (λ_ _ f=>f),oa,aD.1,λj x z' u hz=>zC.keep ((zg.refl (λ_=>False) _).drewN _) (λ_ _ f=>f) F x z' (aD.2 j x z' u hz)⟩))
variable {b L}
theorem zap {r p:Int}{a:Nat->Addr}{w wr h W i:E}{d sv' x:Y}{T:TypeId}{xs:An}{zs:Au}{z:Tree}{F o m:Nat}(y:b<X w.heap)(_X:10<=b)(_S:ym w a)(q:zg (zr b) w wr)(n:dA wr (X w.heap) T 1 d (D xs) xs)(N:vM F wr (Yz (X w.heap) d) xs zs)(s:zg (zr b) wr h)(u:yg h b L m r p)(P:zC o h (λg=>X wr.heap<=g) x z)(l:zke h W) (c:W.grownBy i (dH d)) (B:∀k,dH sv'=I k->dH d=I k\/X W.heap<=k):zg (zr b) w i/\yg i b L m r p/\vM (max F o) i (Yz (X w.heap) sv') (xs++[x]) (zs++[z]):=by
 have t:∀g,g<=b->¬(dH d=I g):=λg c e=>by have:=(zh n g e).1;omega
 refine⟨(((q.trans s).trans (l.mono (λ_ _ f=>f.elim)))).grown c (λj v=>Or.inr (zh n j v).1),(u.keep l id (λ_ _ f=>f)).keep (zg.N3 c) (t b (AD _)) (λg c=>t g oa),zao q.size y n N s P l c B⟩
variable (b L)
theorem Zy (r t:Int)(a:Nat->Addr)(D:Nat->Ts.Out)(DT:Nat->Tree)(w:E)(h:yg w b L n r t)(hS:ym w a)(d:10<=b)(hL:Bc L<=400)(hn:n<=Bc L)(hF:Ts.Fit L)(hG:wY b L r t a D DT)(hD:Cr L D):Uh V 52 #[Ua (I ⟨b,0,U⟩)] w (xe b L r t a w (yQ L r D n) (wV L r D DT n)):=by
 have⟨i0,hi,aR,aS,aT⟩:=info_parts Tryz.OQ;have aO:=h.lt;have q:=zd hS;have HG:=zd hG;have HD:=zd hD;clear hS hG hD;go_enter func52,ntmps52;go_wp2;go_loopw[4] (λsv wr=>∃(m f F:Nat) (ys:Ar) (i:An) (X:Au),m<=Bc L/\(Bc i)<=m/\H (Bc L<m+f)/\H (yg wr b L m r t)/\H (zg (zr b) w wr)/\H (wr.ownsRow (k w.heap) 89 1 sv (Bc i) i)/\H (vM F wr (Yz (k w.heap) sv) i X)/\H (yQ L r D n=vx L r D f ys m)/\H (wV L r D DT n=BA (A4 L r D DT f X m))) (λ_ wr=>Bc L-rdN wr b);exact⟨n,Bc L+1-n,0,[],[],[],hn,ov,(by show _<_;omega),h,zg.refl _ _,A0 _ _ _ _,⟨rfl,λj x z p=>by simp at p⟩,rfl,rfl⟩;have⟨m,f,F,ys,i,X,hm,a9,hf,HR,o,P,aH,HF,HT⟩:=hrel;obtain⟨f,rfl⟩:∃f',f=f'+1:=⟨f-1,by have:=zb hf;omega⟩
 have a2:=(Tu.start HR (q.NS o d) d).rdN;have a7:=XS (r:=r) HD m hm;by_cases W:(zR L r D m).k=0
 .obtain⟨sa,sn,sc,rfl⟩:=zq P;by_cases y:zi L (zR L r D m).n=124
  .have m1:zD L (zR L r D m).n { data:=#[124] }=G:=(by rw[zE L _ 124 124 rfl];simp[y]);have a8:=zG (L:=L) (n:=(zR L r D m).n) oa;have aa:H (yQ L r D n=vx L r D f (ys++[(zR L r D m).v]) ((zR L r D m).n+1)):=(by rw[zb HF];simp only[vx];rw[iN (by simp[W]),IN y];rfl);have av:H (wV L r D DT n=BA (A4 L r D DT f (X++[qe L r D DT m]) ((zR L r D m).n+1))):=(by rw[zb HT];simp only[A4];rw[IN y];rfl);clear y;go_wp2_with(first
    |(go_at_call 100;refine(QD b L m r t a D DT _ HR (q.NS o d) d hL hm hF HG HD).mono ?_;intro e w3 c;obtain⟨s,N,F3,rfl,ah,l,u⟩:=jD c W;have ax:=zd ah;have ab:=zd l;have ac:=zd u;have a3:=l.size;have aw:=zd (zk P l (λg c e=>by unfold zr at e;have:=(zh P g c).1;omega));clear c ah l u)
    |(at_builtin;refine yz _ rfl _ _ 228 rfl (k w.heap) 89 i0 Ui 1 16 underlying228 hi aR aS aT rfl od _ _ i rfl (AZ aw _) _ 1 1 [Ud s N] rfl rfl (cell_one_new _ _ _) (λx p=>by simp at p;subst p;rfl) Ac oa (by simp;have:=o.size;omega) ?_;intro v' w4 ag af ai;have aA:=zap aO d q o P aH ab ac ax Ag af ai;have⟨S,ae,aj⟩:=aA;have T:=zd (Tu.start ae (q.NS S d) d);have au:=zd S;have ay:=zd aj;have ao:=zd ag;clear ag af ai S ae aj)
    |(go_at_call 101;refine(vT (n:=(zR L r D m).n) _ T hL oa od ox).mono ?_;rintro e wq ⟨rfl,tq⟩;have tq:Tu _ _ b L (((zR L r D m).n)+1) r t a wq:=tq;have T:=zd tq;have c1:=tq.c1;have f1:=tq.f1))
   have aB:=Own.to T.on;have aC:wq.ownsRow (k w.heap) 89 1 v' (Bc i+1) (i++[Ud s N]):=zk ao aB (λg c e=>by unfold zr at e;have:=(zh ao g c).1;omega);exact⟨⟨(zR L r D m).n+1,f,max F F3,_,i++[Ud s N],X++[qe L r D DT m],oa,by simp;omega,(by have:=zb hf;show _<_;omega),T.rd,au.trans aB,(by show dA _ _ _ _ _ _ _;rw[AO];exact aC),zd (ay.keep aB (λg c e=>by unfold zr at e;have:=c.1;omega)),aa,av⟩,by rw[(zb T).rdN,a2];omega⟩
  have m1:zD L (zR L r D m).n { data:=#[124] }=Z:=(by rw[zE L _ 124 124 rfl];simp[y]);have aa:H (yQ L r D n=good (min (xu 0 (ys++[(zR L r D m).v])+((Bc ys:Int)+1)-1) 301) (zR L r D m).n):=(by rw[zb HF];simp only[vx];rw[iN (by simp[W]),iN y];rfl);have av:H (wV L r D DT n=BA (X++[qe L r D DT m])):=(by rw[zb HT];simp only[A4];rw[iN y];rfl);clear y;go_wp2_with(first
   |(go_at_call 100;refine(QD b L m r t a D DT _ HR (q.NS o d) d hL hm hF HG HD).mono ?_;intro e w3 c;obtain⟨s,N,F3,rfl,ah,l,u⟩:=jD c W;have ax:=zd ah;have ab:=zd l;have ac:=zd u;have a3:=l.size;have aw:=zd (zk P l (λg c e=>by unfold zr at e;have:=(zh P g c).1;omega));clear c ah l u)
   |(at_builtin;refine yz _ rfl _ _ 228 rfl (k w.heap) 89 i0 Ui 1 16 underlying228 hi aR aS aT rfl od _ _ i rfl (AZ aw _) _ 1 1 [Ud s N] rfl rfl (cell_one_new _ _ _) (λx p=>by simp at p;subst p;rfl) Ac oa (by simp;have:=o.size;omega) ?_;intro v' w4 ag af ai;have aA:=zap aO d q o P aH ab ac ax Ag af ai;have⟨S,ae,aj⟩:=aA;have T:=zd (Tu.start ae (q.NS S d) d);have au:=zd S;have ay:=zd aj;have ao:=zd ag;clear ag af ai S ae aj)
   |(go_at_call 101;refine(xJ (n:=(zR L r D m).n) _ T hL oa od ox).mono ?_;rintro e wq ⟨rfl,qq,rfl⟩))
  go_ret2;have aP:=ay.mono (B:=λg=>k w.heap<=g) (λg _ c=>c.1);have aC:w4.ownsRow (k w.heap) 89 1 v' (i++[Ud s N]).length (i++[Ud s N]):=(by rw[AO];exact ao);rw[zb av];refine xe.good (F:=max F F3+1) aa (au.drewN _) (T.rd.drewN _) ?_;exact O (Q ⟨_,i++[Ud s N],X++[qe L r D DT m],rfl,rfl,(zfH aC).keep ((zg.refl (λ_=>False) _).drewN _) (λ_ _ f=>f),by simp;omega,aP.1,λj x z' p hz=>zC.keep ((zg.refl (λ_=>False) _).drewN _) (λ_ _ f=>f) _ x z' (aP.2 j x z' p hz),ov⟩)
 have aa:H (yQ L r D n=zR L r D m):=(by rw[zb HF];simp only[vx];rw[IN W];rfl);go_wp2_with(first
  |(go_at_call 100;refine(QD b L m r t a D DT _ HR (q.NS o d) d hL hm hF HG HD).mono ?_;intro e w3 c;obtain⟨g3,rfl,aQ,l,u⟩:=XV c W;have aZ:=zd aQ;have ab:=zd l;have ac:=zd u;clear c aQ l u))
 go_ret2;rw[zb aa];exact⟨o.trans ab,ac,O ⟨W,_,rfl,aZ.base o.size⟩⟩
theorem yg.Oi {b:Nat}{L:Ai}{n:Nat}{r f:Int}(h:yg w b L n r f)(j:Int):yg (w.setCell ⟨b,3,U⟩ (M J j)) b L n r j:=by have⟨a,c1,c,d,f1,i⟩:=h;refine⟨?_,(AN _ _ _ _ ov).trans c1,(AN _ _ _ _ ov).trans c,AX _ _ _ d,(zl _ _ _ _).trans f1,(zl _ _ _ _).trans i⟩;obtain⟨g,e,a,k,l,m⟩|⟨rfl,a⟩:=a;exact Q ⟨g,e,(AN _ _ _ _ ov).trans a,k,l,m.keep ((zg.refl (zr b) w).NS 3 _) Af⟩;exact O ⟨rfl,(AN _ _ _ _ ov).trans a⟩
theorem zeu {b F:Nat}{w w1 c d:E}{v:Y}{z:Tree}(i:b<k (u w))(f:zg (zr b) w w1)(j:zC F c (λg=>k (u w1)<=g) v z)(h:zg (zr b) c d):zC F d (λg=>k (u w)<=g) v z:=
 zC.keep h (A:=λg=>k (u w)<=g) (λg a e=>by unfold zr at e;subst e;exact absurd i (Nat.not_lt.2 a)) F v z (zC.mono (λg _ a=>AP f.size a) F v z j)
theorem zcB (r:Int)(a:Nat->Addr)(g:10<=b)(f:D L<=400):wY b L r 10 a (zB L r 0) (qL L r 0):=by
 intro n w h c l;have T:=zd (Tu.start h c g);have k:=h.c3;have m:=c.s7;go_enter func215,ntmps215;go_wp2;go_region_with(first
  |(go_at_call 102;refine(qu (n:=n) (T.drewN _) f oa).mono ?_;rintro e j ⟨rfl,q,rfl⟩)
  |(go_at_call 55;refine(Kj (n:=n) _ 7 _ _ rfl (T.drewN _)).mono ?_;rintro e j ⟨v,rfl,i,d⟩))
 all_goals go_wp2_with fail
 all_goals
  go_ret2;exact xe.bad rfl (show(7:Nat)≠0 by decide) (Own.to d.on) d.rd i
theorem zcC (r f:Int)(a:Nat->Addr)(c:Nat)(m:10<=b)(u:D L<=400)(h0:0<=f)(h1:f<10)(hA:∀(n:Nat) (w:E),yg w b L n r (f+1)->ym w a->n<=D L->Uh V 52 #[Ua (I ⟨b,0,U⟩)] w (xe b L r (f+1) a w (yQ L r (zB L r c) n) (wV L r (zB L r c) (qL L r c) n))):wY b L r f a (zB L r (c+1)) (qL L r (c+1)):=by
 intro n w h hS S;have aw:=h.lt;have X:=zd h;have N:=zd hS;have HA:=zd hA;have c3:=h.c3;have hd:(f == 10)=Z:=by simp;omega
 clear h hS hA;have ho:=Q1 (L:=L) (r:=r) n S;have ha:=Ys (r:=r) (qS (L:=L) (r:=r) c) (zZ L r n).n ho.2;by_cases p:(zZ L r n).k=0
 .by_cases x:(yQ L r (zB L r c) (zZ L r n).n).k=0
  .by_cases z:zi L (yQ L r (zB L r c) (zZ L r n).n).n=41
   .have m1:zD L (yQ L r (zB L r c) (zZ L r n).n).n { data:=#[41] }=G:=(by rw[zE L _ 41 41 rfl];simp[z]);have s:H (zB L r (c+1) n=good (yQ L r (zB L r c) (zZ L r n).n).v ((yQ L r (zB L r c) (zZ L r n).n).n+1)):=(by simp only[zB];unfold wU;rw[iN (by simp[p]),iN (by simp[x]),IN z];rfl);clear z;go_enter func215,ntmps215;go_wp2_with(first
     |(go_at_call 241;refine(Zw b L n r f a _ X N m u S).mono ?_;rintro e B ⟨d,l⟩;obtain⟨rfl,_⟩:=Xb l p;clear l;have i:=zd d;have af:=d.rd.c3;have ah:=d.rd.f3;clear d)
     |(go_at_call 52;refine(zb HA (zZ L r n).n _ (i.rd.Oi _) (i.se.NS ((zg.refl _ _).NS _ _) m) ho.2).mono ?_;intro e w2 o;obtain⟨T2,y2,F2,rfl,W,q,j⟩:=jD o x;have ae:=zd W;have y:=zd q;have F:=zd j;have ag:=j.c3;have ai:=j.f3;clear o W q j)
     |(go_at_call 101;refine(j4 b L (yQ L r (zB L r c) (zZ L r n).n).n r f _ _ (F.Oi _) u oa od ox).mono ?_;rintro e w3 ⟨rfl,al,ak⟩;have aq:=zd al;have ap:=zd ak;clear al ak))
    go_ret2;have t:zg (zr b) w (B.setCell ⟨b,3,U⟩ (M J (f+1))):=(Own.to i.on).NS _ _;have P:zg (zr b) w2 w3:=((zg.refl (zr b) w2).NS 3 _).trans ap;exact xe.good s ((t.trans y).trans P) aq (zeu aw t ae P)
   have m1:zD L (yQ L r (zB L r c) (zZ L r n).n).n { data:=#[41] }=Z:=(by rw[zE L _ 41 41 rfl];simp[z]);have s:H (zB L r (c+1) n=Ts.bad 3 (zA L r (yQ L r (zB L r c) (zZ L r n).n).n) (yQ L r (zB L r c) (zZ L r n).n).n):=(by simp only[zB];unfold wU;rw[iN (by simp[p]),iN (by simp[x]),iN z];rfl);clear z;go_enter func215,ntmps215;go_wp2_with(first
    |(go_at_call 241;refine(Zw b L n r f a _ X N m u S).mono ?_;rintro e B ⟨d,l⟩;obtain⟨rfl,_⟩:=Xb l p;clear l;have i:=zd d;have af:=d.rd.c3;have ah:=d.rd.f3;clear d)
    |(go_at_call 52;refine(zb HA (zZ L r n).n _ (i.rd.Oi _) (i.se.NS ((zg.refl _ _).NS _ _) m) ho.2).mono ?_;intro e w2 o;obtain⟨T2,y2,F2,rfl,W,q,j⟩:=jD o x;have ae:=zd W;have y:=zd q;have F:=zd j;have ag:=j.c3;have ai:=j.f3;clear o W q j);(have T:=zd (Tu.start (F.Oi f) ((N.NS (((Own.to i.on).NS 3 _).trans y) m).NS ((zg.refl _ _).NS 3 _) m) m))
    |(go_at_call 101;refine(xJ (n:=(yQ L r (zB L r c) (zZ L r n).n).n) _ T u oa od ox).mono ?_;rintro e wq ⟨rfl,qq,rfl⟩)
    |(go_at_call 54;refine(QV (n:=(yQ L r (zB L r c) (zZ L r n).n).n) (T.drewN _) u oa).mono ?_;rintro e wq ⟨v,rfl,hv,d⟩;have T:=zd d;have c1:=d.c1;have f1:=d.f1))
   go_ret2;have t:zg (zr b) w (B.setCell ⟨b,3,U⟩ (M J (f+1))):=(Own.to i.on).NS _ _;have P:=(t.trans y).NS 3 (M J f);exact xe.bad s od (P.trans (Own.to T.on)) T.rd (hv.base P.size)
  have s:H (zB L r (c+1) n=(yQ L r (zB L r c) (zZ L r n).n)):=(by simp only[zB];unfold wU;rw[iN (by simp[p]),IN x];rfl);go_enter func215,ntmps215;go_wp2_with(first
   |(go_at_call 241;refine(Zw b L n r f a _ X N m u S).mono ?_;rintro e B ⟨d,l⟩;obtain⟨rfl,_⟩:=Xb l p;clear l;have i:=zd d;have af:=d.rd.c3;have ah:=d.rd.f3;clear d)
   |(go_at_call 52;refine(zb HA (zZ L r n).n _ (i.rd.Oi _) (i.se.NS ((zg.refl _ _).NS _ _) m) ho.2).mono ?_;intro e w2 o;obtain⟨g2,rfl,an,q,j⟩:=XV o x;have ar:=zd an;have y:=zd q;have F:=zd j;have ag:=j.c3;have ai:=j.f3;clear o an q j))
  go_ret2;have t:zg (zr b) w (B.setCell ⟨b,3,U⟩ (M J (f+1))):=(Own.to i.on).NS _ _;rw[zb s];exact⟨(t.trans y).NS 3 _,F.Oi f,O ⟨x,_,rfl,(ar.base t.size).keep ((zg.refl (zr b) _).NS 3 _) (λg o e=>by unfold zr at e;omega)⟩⟩
 have s:H (zB L r (c+1) n=zZ L r n):=by simp only[zB];unfold wU;rw[IN p];rfl
 go_enter func215,ntmps215;go_wp2_with(go_at_call 241;refine(Zw b L n r f a _ X N m u S).mono ?_;rintro e B ⟨d,l⟩;obtain⟨v,rfl,hv⟩:=ND l p;clear l;have⟨gv,av⟩:=hv.form;subst av;have i:=zd d;clear d);go_ret2;rw[zb s];exact⟨Own.to i.on,i.rd,O ⟨p,_,rfl,hv⟩⟩
theorem VN (b:Nat)(L:Ai)(r:Int)(a:Nat->Addr)(e:10<=b)(d:D L<=400)(f:Ts.Fit L):∀c:Nat,c<=10->wY b L r ((10:Int)-c) a (zB L r c) (qL L r c)
 |0,_=>zcB b L r a e d
 |c+1,k=>by
  have g:=VN b L r a e d f c oa;refine zcC b L r _ a c e d oa oa ?_;rw[show((10:Int)-((c+1:Nat):Int))+1=(10:Int)-c by omega];intro n w h i j;exact Zy b L n r _ a (zB L r c) (qL L r c) w h i e d j f g (qS c)
theorem kT (r:Int)(a:Nat->Addr)(w:E)(h:yg w b L n r 0)(f:ym w a)(e:10<=b)(d:D L<=400)(g:n<=D L)(c:Ts.Fit L):Uh V 52 #[Ua (I ⟨b,0,U⟩)] w (xe b L r 0 a w (yQ L r (zB L r 10) n) (wV L r (zB L r 10) (qL L r 10) n)):=
 Zy b L n r 0 a (zB L r 10) (qL L r 10) w h f e d g c (VN b L r a e d c 10 oa) (qS 10)
end
section
open Sm (Tree yI)
namespace Ts
def ZZ (T:Tree)(v:Int):Prop:=∃a,∀F,a<=F->yI F T=v
def YN (b:Au)(zs:Ar):Prop:=∃a,∀F,a<=F->b.map (yI F)=zs
theorem KV {T:Tree}(h:T.kind<=4):ZZ T 1:=⟨1,λF a=>by
 obtain⟨g,rfl⟩:∃g,F=g+1:=⟨F-1,oa⟩
 unfold yI;rw[iN oa,iN oa,iN oa]⟩
theorem Di:YN [] []:=⟨0,λ_ _=>rfl⟩
theorem YN.snoc {a:Au}{zs:Ar}{t:Tree}{z:Int}:YN a zs->ZZ t z->YN (a++[t]) (zs++[z])
 |⟨b,h⟩,⟨c,g⟩=>⟨max b c,λF d=>by rw[CX,h F oa];simp[g F oa]⟩
theorem IA {a:Au}{zs:Ar}:YN a zs->ZZ (ZX a) (xu 0 zs)
 |⟨b,h⟩=>⟨b+1,λF c=>by
  obtain⟨g,rfl⟩:∃g,F=g+1:=⟨F-1,oa⟩
  conv=>lhs;unfold yI
  rw[iN (by simp[ZX]),IN (by rfl)];show xu 0 (a.map (yI g))=_;rw[h g oa]⟩
theorem YN.len {a:Au}{zs:Ar}:YN a zs->D a=D zs
 |⟨b,h⟩=>by rw[<-h b (AD _)];simp
theorem IC {a:Au}{zs:Ar}(b:YN a zs):ZZ (BA a) (min (xu 0 zs+D zs-1) 301):=by
 have d:=b.len;have⟨c,h⟩:=b;refine⟨c+1,λF e=>?_⟩;obtain⟨g,rfl⟩:∃g,F=g+1:=⟨F-1,oa⟩
 conv=>lhs;unfold yI
 rw[IN (by rfl)];show min (xu 0 (a.map (yI g))+(D a:Int)-1) 301=_;rw[h g oa,d]
theorem IB {t:Tree}{z:Int}(l m:Int):ZZ t z->ZZ (vW t l m) (min (kF z l m) 301)
 |⟨a,h⟩=>⟨a+1,λF b=>by
  obtain⟨g,rfl⟩:∃g,F=g+1:=⟨F-1,oa⟩
  conv=>lhs;unfold yI
  rw[iN (by simp[vW]),iN (by simp[vW]),IN (by rfl)];show min (kF (yI g t) l m) 301=_;rw[h g oa]⟩
section
variable {L:Ai} {r:Int}
theorem Ep {n:Nat}{c:Int}(h:zi L n=c)(b:0<=c):n<D L:=by by_cases a:n<D L;exact a;rw[qi oa] at h;omega
theorem Fh {D:Nat->Out}{DT:Nat->Tree}(h:∀n,n<Bc L->(D n).k=0->ZZ (DT n) (D n).v)(n:Nat)(a:(zK L r D n).k=0):ZZ (xj L r DT n) (zK L r D n).v:=by unfold zK at a ⊢;unfold xj;by_cases g:Yr (zi L n)=G;rw[IN g] at a;simp[bad] at a;rw[iN g] at a ⊢;by_cases d:zi L n=40;rw[IN d] at a ⊢;rw[IN d];exact h n (Ep (c:=40) d oa) a;rw[iN d] at a ⊢;rw[iN d];by_cases e:zi L n=91;rw[IN e] at a ⊢;rw[IN e];unfold one at a ⊢;split at a;rename_i b;rw[IN b];exact KV (by simp[xS,vV]);rename_i b;exact absurd a b;rw[iN e] at a ⊢;rw[iN e];by_cases b:zi L n=92;rw[IN b] at a ⊢;rw[IN b];unfold one at a ⊢;split at a;rename_i f;rw[IN f];unfold BJ;split<;>exact KV (by simp[qU,ju]);rename_i f;exact absurd a f;rw[iN b] at a ⊢;rw[iN b];split<;>exact KV (by simp[Zl,ju])
theorem Db {D:Nat->Out}{DT:Nat->Tree}(g:∀n,n<Bc L->(D n).k=0->ZZ (DT n) (D n).v)(n:Nat)(a:(yJ L r D n).k=0):ZZ (jg L r D DT n) (yJ L r D n).v:=by unfold yJ at a ⊢;unfold jg;by_cases b:Bn L n≠0;rw[IN b,IN b];exact KV (by simp[Zk]);rw[iN b] at a ⊢;rw[iN b];by_cases c:(zK L r D n).k≠0;rw[IN c] at a;exact absurd a c;rw[iN c] at a ⊢;have f:=Fh (L:=L) (r:=r) g n (by simpa using c);by_cases d:(zx L r (zK L r D n).n).1=Z;rw[IN d,IN d];exact f;rw[iN d] at a ⊢;rw[iN d];by_cases e:(zx L r (zK L r D n).n).2.1.k≠0;rw[IN e] at a;exact absurd a e;rw[iN e];exact IB _ _ f
theorem zaq {D:Nat->Out}{DT:Nat->Tree}(e:∀n,n<Bc L->(D n).k=0->ZZ (DT n) (D n).v):∀(f:Nat) (d:Au) (zs:Ar) (n:Nat),YN d zs->(xG L r D f (xu 0 zs) n).k=0->∃g,YN (jC L r D DT f d n) g/\(xG L r D f (xu 0 zs) n).v=xu 0 g
 |0,_,zs,_,h,_=>⟨zs,h,rfl⟩
 |f+1,d,zs,n,h,a=>by
  unfold xG at a ⊢;unfold jC;by_cases b:Zv L n=G;rw[IN b,IN b];exact⟨zs,h,rfl⟩;rw[iN b] at a ⊢;rw[iN b];by_cases c:(yJ L r D n).k≠0;rw[IN c] at a;exact absurd a c;rw[iN c] at a ⊢;have i:=Db (L:=L) (r:=r) e n (by simpa using c);rw[<-sumS_append] at a ⊢;exact zaq e f _ _ _ (h.snoc i) a
theorem zgQ {D:Nat->Out}{DT:Nat->Tree}(c:∀n,n<Bc L->(D n).k=0->ZZ (DT n) (D n).v)(n:Nat)(d:(zR L r D n).k=0):ZZ (qe L r D DT n) (zR L r D n).v:=by have⟨f,a,b⟩:=zaq c (Bc L+1-n) [] [] n Di d;have e:(zR L r D n).v=xu 0 f:=b;rw[e];exact IA a
theorem zfI {D:Nat->Out}{DT:Nat->Tree}(i:Cr L D)(g:∀n,n<Bc L->(D n).k=0->ZZ (DT n) (D n).v):∀(f:Nat) (d:Au) (zs:Ar) (n:Nat),n<=Bc L->Bc L+1-n<=f->YN d zs->(vx L r D f zs n).k=0->∃e,YN (A4 L r D DT f d n) e/\(vx L r D f zs n).v=min (xu 0 e+Bc e-1) 301
 |0,_,_,n,h,m,_,_=>oa
 |f+1,d,zs,n,h,m,l,a=>by
  unfold vx at a ⊢;unfold A4;have o:=XS (r:=r) i n h;by_cases c:(zR L r D n).k≠0;rw[IN c] at a;exact absurd a c;rw[iN c] at a ⊢;have j:=zgQ (L:=L) (r:=r) g n (by simpa using c);by_cases b:zi L (zR L r D n).n=124;rw[IN b] at a ⊢;rw[IN b];have p:=Ep b oa;exact zfI i g f _ _ _ oa oa (l.snoc j) a;rw[iN b,iN b];refine⟨zs++[(zR L r D n).v],l.snoc j,?_⟩;rw[AO];rfl
theorem zfJ {D:Nat->Out}{DT:Nat->Tree}(f:Cr L D)(d:∀n,n<Bc L->(D n).k=0->ZZ (DT n) (D n).v)(n:Nat)(h:n<=Bc L)(g:(yQ L r D n).k=0):ZZ (wV L r D DT n) (yQ L r D n).v:=by have⟨a,b,c⟩:=zfI f d (Bc L+1-n) [] [] n h (AD _) Di g;have e:(yQ L r D n).v=min (xu 0 a+Bc a-1) 301:=c;rw[e];exact IC b
theorem zcD:∀(a n:Nat),n<D L->(zB L r a n).k=0->ZZ (qL L r a n) (zB L r a n).v
 |0,_,_,b=>by simp[zB,bad] at b
 |a+1,n,f,b=>by
  have h:=Q1 (L:=L) (r:=r) n f;have e:zB L r (a+1) n=wU L r (yQ L r (zB L r a)) n:=rfl;rw[e] at b ⊢;unfold wU at b ⊢;by_cases d:(zZ L r n).k≠0;rw[IN d] at b;exact absurd b d;rw[iN d] at b ⊢;by_cases c:(yQ L r (zB L r a) (zZ L r n).n).k≠0;rw[IN c] at b;exact absurd b c;rw[iN c] at b ⊢;by_cases g:zi L (yQ L r (zB L r a) (zZ L r n).n).n=41;rw[IN g];exact zfJ (qS a) (λn f b=>zcD a n f b) _ oa (by simpa using c);rw[iN g] at b;simp[bad] at b
theorem zcE (a n:Nat)(c:n<=D L)(b:(yQ L r (zB L r a) n).k=0):ZZ (wV L r (zB L r a) (qL L r a) n) (yQ L r (zB L r a) n).v:=zfJ (qS a) (λn c b=>zcD a n c b) n c b
end
theorem ZZ.at {T:Tree}{v:Int}{F:Nat}(h:ZZ T v)(c:WF F T):yI F T=v:=by have⟨a,b⟩:=h;rw[<-Nv c (show F<=max F a by omega)];exact b _ oa
end Ts
end
section
open Go.RowKit
theorem Tryz.Ss:(Uk (Ud 153 v) 89 153 G).run V w=.ok (Ue #[v,C G]) w:=om
theorem Tryz.Tr:(Uk (Ud 153 v) 89 244 G).run V w=.ok (Ue #[Uf #[],C Z]) w:=om
theorem Tryz.Tq:(Uk (Ud 153 v) 89 245 G).run V w=.ok (Ue #[M Ug 0,C Z]) w:=om
theorem Tryz.Tp:(Uk (Ud 153 v) 89 246 G).run V w=.ok (Ue #[M Ug 0,C Z]) w:=om
theorem Tryz.To:(Uk (Ud 153 v) 89 250 G).run V w=.ok (Ue #[Uf #[C Z,K U 0 0,K U 0 0],C Z]) w:=om
theorem Tryz.Sr:(Uk (Ud 244 v) 89 153 G).run V w=.ok (Ue #[M J 0,C Z]) w:=om
theorem Tryz.Sq:(Uk (Ud 244 v) 89 244 G).run V w=.ok (Ue #[v,C G]) w:=om
theorem Tryz.Tn:(Uk (Ud 244 v) 89 245 G).run V w=.ok (Ue #[M Ug 0,C Z]) w:=om
theorem Tryz.Tm:(Uk (Ud 244 v) 89 246 G).run V w=.ok (Ue #[M Ug 0,C Z]) w:=om
theorem Tryz.Tl:(Uk (Ud 244 v) 89 250 G).run V w=.ok (Ue #[Uf #[C Z,K U 0 0,K U 0 0],C Z]) w:=om
theorem Tryz.Sp:(Uk (Ud 245 v) 89 153 G).run V w=.ok (Ue #[M J 0,C Z]) w:=om
theorem Tryz.Sn:(Uk (Ud 245 v) 89 244 G).run V w=.ok (Ue #[Uf #[],C Z]) w:=om
theorem Tryz.Sl:(Uk (Ud 245 v) 89 245 G).run V w=.ok (Ue #[v,C G]) w:=om
theorem Tryz.Tj:(Uk (Ud 245 v) 89 246 G).run V w=.ok (Ue #[M Ug 0,C Z]) w:=om
theorem Tryz.Ti:(Uk (Ud 245 v) 89 250 G).run V w=.ok (Ue #[Uf #[C Z,K U 0 0,K U 0 0],C Z]) w:=om
theorem Tryz.Sk:(Uk (Ud 246 v) 89 153 G).run V w=.ok (Ue #[M J 0,C Z]) w:=om
theorem Tryz.Sj:(Uk (Ud 246 v) 89 244 G).run V w=.ok (Ue #[Uf #[],C Z]) w:=om
theorem Tryz.Si:(Uk (Ud 246 v) 89 245 G).run V w=.ok (Ue #[M Ug 0,C Z]) w:=om
theorem Tryz.Sf:(Uk (Ud 246 v) 89 246 G).run V w=.ok (Ue #[v,C G]) w:=om
theorem Tryz.Tg:(Uk (Ud 246 v) 89 250 G).run V w=.ok (Ue #[Uf #[C Z,K U 0 0,K U 0 0],C Z]) w:=om
theorem Tryz.Se:(Uk (Ud 250 v) 89 153 G).run V w=.ok (Ue #[M J 0,C Z]) w:=om
theorem Tryz.Sd:(Uk (Ud 250 v) 89 244 G).run V w=.ok (Ue #[Uf #[],C Z]) w:=om
theorem Tryz.Sb:(Uk (Ud 250 v) 89 245 G).run V w=.ok (Ue #[M Ug 0,C Z]) w:=om
theorem Tryz.Sa:(Uk (Ud 250 v) 89 246 G).run V w=.ok (Ue #[M Ug 0,C Z]) w:=om
theorem Tryz.R9:(Uk (Ud 250 v) 89 250 G).run V w=.ok (Ue #[v,C G]) w:=om
theorem Tryz.R7:(Uk (Ud 228 v) 89 153 G).run V w=.ok (Ue #[M J 0,C Z]) w:=om
theorem Tryz.Tf:(Uk (Ud 228 v) 89 244 G).run V w=.ok (Ue #[Uf #[],C Z]) w:=om
theorem Tryz.Te:(Uk (Ud 228 v) 89 245 G).run V w=.ok (Ue #[M Ug 0,C Z]) w:=om
theorem Tryz.Td:(Uk (Ud 228 v) 89 246 G).run V w=.ok (Ue #[M Ug 0,C Z]) w:=om
theorem Tryz.Tc:(Uk (Ud 228 v) 89 250 G).run V w=.ok (Ue #[Uf #[C Z,K U 0 0,K U 0 0],C Z]) w:=om
theorem Tryz.R5:(Uk (Ud 228 v) 89 228 G).run V w=.ok (Ue #[v,C G]) w:=om
theorem Tryz.R4:(Uk (Ud 252 v) 89 153 G).run V w=.ok (Ue #[M J 0,C Z]) w:=om
theorem Tryz.Ta:(Uk (Ud 252 v) 89 244 G).run V w=.ok (Ue #[Uf #[],C Z]) w:=om
theorem Tryz.S9:(Uk (Ud 252 v) 89 245 G).run V w=.ok (Ue #[M Ug 0,C Z]) w:=om
theorem Tryz.S8:(Uk (Ud 252 v) 89 246 G).run V w=.ok (Ue #[M Ug 0,C Z]) w:=om
theorem Tryz.S7:(Uk (Ud 252 v) 89 250 G).run V w=.ok (Ue #[Uf #[C Z,K U 0 0,K U 0 0],C Z]) w:=om
theorem Tryz.R1:(Uk (Ud 252 v) 89 228 G).run V w=.ok (Ue #[K U 0 0,C Z]) w:=om
theorem Tryz.R0:(Uk (Ud 252 v) 89 252 G).run V w=.ok (Ue #[v,C G]) w:=om
theorem Tryz.RZ:(Uk (Ud 254 v) 89 153 G).run V w=.ok (Ue #[M J 0,C Z]) w:=om
theorem Tryz.S6:(Uk (Ud 254 v) 89 244 G).run V w=.ok (Ue #[Uf #[],C Z]) w:=om
theorem Tryz.S5:(Uk (Ud 254 v) 89 245 G).run V w=.ok (Ue #[M Ug 0,C Z]) w:=om
theorem Tryz.S4:(Uk (Ud 254 v) 89 246 G).run V w=.ok (Ue #[M Ug 0,C Z]) w:=om
theorem Tryz.S3:(Uk (Ud 254 v) 89 250 G).run V w=.ok (Ue #[Uf #[C Z,K U 0 0,K U 0 0],C Z]) w:=om
theorem Tryz.RY:(Uk (Ud 254 v) 89 228 G).run V w=.ok (Ue #[K U 0 0,C Z]) w:=om
theorem Tryz.RX:(Uk (Ud 254 v) 89 252 G).run V w=.ok (Ue #[K U 0 0,C Z]) w:=om
theorem Tryz.RV:(Uk (Ud 254 v) 89 254 G).run V w=.ok (Ue #[v,C G]) w:=om
theorem Es (T:TypeId)(x:Y)(h:Et T):Uh V 58 #[Ud T x] w λe g=>e=.returned (M J 1)/\g=w:=by
 obtain rfl|rfl|rfl|rfl|rfl:=h
 .have a:=Tryz.Ss;have b:=Tryz.Tr;have c:=Tryz.Tq;have d:=Tryz.Tp;have f:=Tryz.To;go_enter func58,ntmps58;go_wp2;go_ret;exact⟨rfl,rfl⟩
 .have a:=Tryz.Sr;have b:=Tryz.Sq;have c:=Tryz.Tn;have d:=Tryz.Tm;have f:=Tryz.Tl;go_enter func58,ntmps58;go_wp2;go_ret;exact⟨rfl,rfl⟩
 .have a:=Tryz.Sp;have b:=Tryz.Sn;have c:=Tryz.Sl;have d:=Tryz.Tj;have f:=Tryz.Ti;go_enter func58,ntmps58;go_wp2;go_ret;exact⟨rfl,rfl⟩
 .have a:=Tryz.Sk;have b:=Tryz.Sj;have c:=Tryz.Si;have d:=Tryz.Sf;have f:=Tryz.Tg;go_enter func58,ntmps58;go_wp2;go_ret;exact⟨rfl,rfl⟩
 have a:=Tryz.Se;have b:=Tryz.Sd;have c:=Tryz.Sb;have d:=Tryz.Sa;have f:=Tryz.R9;go_enter func58,ntmps58;go_wp2;go_ret;exact⟨rfl,rfl⟩
def VO (f:Nat):Prop:=∀(w:E) (A:Aj) (v:Y) (z:Int),yt f w A v z->Uh V 58 #[v] w λe a=>e=.returned (M J z)/\zke w a
theorem yt.drewN {f:Nat}{w:E}{A:Aj}{v:Y}{z:Int}(h:yt f w A v z)(q:Nat):yt f (w.drewN q) A v z:=yt.keep ((zg.refl (λ_=>False) w).drewN q) (λ_ _ f=>f) f v z h
theorem zfK (o:VO f)(w:E)(A:Aj)(q:Y)(xs:An)(zs:Ar)(L:Zu w A q xs)(hx:D xs<=1000)(h:Ie f w A xs zs):Uh V 109 #[q] w λe S=>e=.returned (M J (xu 0 zs))/\zke w S:=by
 have u:=zd h;have s:=zd o;have P:=h.1;obtain⟨rfl,rfl⟩|⟨g,T,rfl,W,hc,hg,n⟩:=L
 .have N:zs=[]:=Cb (by simpa using P);subst N;go_enter func109,ntmps109;go_wp2_with fail;refine wp_loop_rounds 1 ?_;rw[rounds_succ];go_wp2;go_ret;exact⟨rfl,zg.refl _ _⟩
 have m:=zd n;go_enter func109,ntmps109;go_wp2;go_loopw[3,8] (λt i wr=>∃(j:Nat),i=M J j/\j<=D xs/\zke w wr/\0<=xu 0 (zs.take j)/\xu 0 (zs.take j)<=301/\t=M J (xu 0 (zs.take j))) (λ_ i _=>D xs-(intOf i).toNat);exact⟨0,rfl,oa,zg.refl _ _,by simp[xu],by simp[xu],by simp[xu]⟩;obtain⟨j,rfl,hj,b,af,ag,rfl⟩:=hrel;by_cases F:j<D xs
 .have c:=AE F;have l:zs[j]?=I (zs[j]' oa):=AE oa;have ac:=(b.cell (zic w _ (zb m j xs[j] c)) id).trans (zb m j xs[j] c);have k:=yt.keep b (λ_ _ f=>f) f _ _ (u.2 j xs[j] (zs[j]' oa) c l);have aa:=yt.bd f _ _ k;have p:zs.take (j+1)=zs.take j++[zs[j]' oa]:=(by rw[FK,l];rfl);have x:=zd p;have v:=zd k;generalize B:zs[j]' oa=a at *;generalize z:xs[j]=X at *;go_wp2_with(go_at_call 58;refine(zb s _ A X a v).mono ?_;rintro e w1 ⟨rfl,y⟩);have d:xu 0 (zs.take (j+1))=min (xu 0 (zs.take j)+a) 301:=(by rw[zb x,sumS_append]);exact⟨⟨j+1,Ae,oa,b.trans y,by rw[d];omega,by rw[d];omega,by rw[d,show(if 301<xu 0 (zs.take j)+a then(301:Int) else xu 0 (zs.take j)+a)=min (xu 0 (zs.take j)+a) 301 by split<;>omega]⟩,Ad⟩
 have r:H (zs.take j=zs):=(FY oa);go_wp2;go_ret;rw[zb r];exact⟨rfl,b⟩
theorem Du {f:Nat}{w:E}{A:Aj}{xs:An}{zs:Ar}(h:Ie f w A xs zs):0<=xu 0 zs/\xu 0 zs<=301:=by
 refine XR zs 0 oa oa ?_;intro y c;have⟨j,a⟩:=wM c;have b:j<D xs:=by
  by_cases d:j<D zs;have:=h.1;omega
  grind
 exact(yt.bd f _ _ (h.2 j xs[j] y (AE b) a)).1
theorem M8 {x y X Y:Int}(d:0<=x)(e:x<=X)(c:0<=y)(f:y<=Y):0<=x*y/\x*y<=X*Y:=by refine⟨CQ d c,?_⟩;have a:=Lr e c;have b:=Int.mul_le_mul_of_nonneg_left f (show(0:Int)<=X by omega);omega
theorem VP (k:VO f)(w:E)(A:Aj)(p:Value)(l m z:Int)(h:yt f w A p z)(n:0<=l)(o:l<=100)(t:-1<=m)(u:m<=100)(v:m = -1\/l<=m):Uh V 110 #[Uf #[p,M J l,M J m]] w λe s=>e=.returned (M J (kF z l m))/\zke w s:=by
 have c:=yt.bd f _ _ h;have j:=zd h;have i:=zd k;by_cases d:m = -1
 .have g:H (kF z l m=max l 1*z+1):=by unfold kF;rw[IN d];rfl
  have P:(if l<1 then(1:Int) else l)=max l 1:=by split<;>omega
  have N:=M8 (x:=max l 1) (y:=z) (X:=100) (Y:=301) oa oa c.1 c.2;subst d;go_enter func110,ntmps110;go_wp2_with(go_at_call 58;refine(zb i _ A p z (yt.keep ((zg.refl (λ_=>False) w).alloc _) (λ_ _ f=>f) f _ _ j)).mono ?_;rintro e b ⟨rfl,a⟩;have q:dx b ⟨dg w.heap,1,U⟩=I (M J l):=zf a _ _ (zj w _ rfl _ _ 1 _ rfl) id;have r:dx b ⟨dg w.heap,2,U⟩=I (M J (-1)):=zf a _ _ (zj w _ rfl _ _ 2 _ rfl) id);go_ret;rw[zb g];exact⟨rfl,Ag.trans a⟩
 have g:H (kF z l m=l*z+(m-l)*(z+1)):=by unfold kF;rw[iN d];rfl
 have B:(m == -1)=Z:=by simp[d]
 have F:=M8 (x:=l) (y:=z) (X:=100) (Y:=301) n o c.1 c.2;have L:=M8 (x:=m-l) (y:=z+1) (X:=100) (Y:=302) oa oa oa oa;go_enter func110,ntmps110;go_wp2_with(go_at_call 58;refine(zb i _ A p z (yt.keep ((zg.refl (λ_=>False) w).alloc _) (λ_ _ f=>f) f _ _ j)).mono ?_;rintro e b ⟨rfl,a⟩;have q:dx b ⟨dg w.heap,1,U⟩=I (M J l):=zf a _ _ (zj w _ rfl _ _ 1 _ rfl) id;have r:dx b ⟨dg w.heap,2,U⟩=I (M J m):=zf a _ _ (zj w _ rfl _ _ 2 _ rfl) id);go_ret;rw[zb g];exact⟨rfl,Ag.trans a⟩
theorem yt.form {f:Nat}{w:E}{A:Aj}{v:Y}{z:Int}(h:yt f w A v z):∃T y,v=Ud T y:=by
 cases f with
 |zero=>exact h.elim
 |succ f=>
  obtain⟨_,T,x,_,h⟩|⟨a,_,_,h,_⟩|⟨a,_,_,h,_⟩|⟨p,l,m,_,h,_⟩:=h;exact⟨_,_,h⟩;exact⟨_,_,h⟩;exact⟨_,_,h⟩;exact⟨_,_,h⟩
theorem zgR (d:VO f):VO (f+1):=by
 intro w A v z h;have al:=yt.bd _ _ _ h;obtain⟨rfl,T,x,hl,rfl⟩|⟨o,q,k,rfl,a,s,c,b,n,P⟩|⟨o,q,k,rfl,a,s,c,b,n⟩|⟨p,l,m,z',rfl,a,c,b,n,P,S,h8⟩:=h;exact(Es w T x hl).mono (by rintro e t ⟨rfl,rfl⟩;exact⟨rfl,zg.refl _ _⟩)
 .have j:=zfK f d w A o q k a s ⟨c,b⟩;have r:=zd j;have an:0<=xu 0 k/\xu 0 k<=301:=Du ⟨c,b⟩;obtain⟨W,X,rfl⟩:∃W X,o=K W (D q) X:=by obtain⟨rfl,rfl⟩|⟨g,aj,rfl,_⟩:=a;exact⟨_,_,rfl⟩;exact⟨_,_,rfl⟩
  have u:=Tryz.R7;have y:=Tryz.Tf;have B:=Tryz.Te;have F:=Tryz.Td;have L:=Tryz.Tc;have N:=Tryz.R5;go_enter func58,ntmps58;go_wp2_with(go_at_call 109;refine r.mono ?_;rintro e t ⟨rfl,i⟩)
  all_goals
   go_ret;exact⟨qr oa,i⟩
 .have j:=zfK f d w A o q k a s ⟨c,b⟩;have r:=zd j;have u:=Tryz.R4;have y:=Tryz.Ta;have B:=Tryz.S9;have F:=Tryz.S8;have L:=Tryz.S7;have N:=Tryz.R1;have a6:=Tryz.R0;go_enter func58,ntmps58;go_wp2_with(go_at_call 109;refine r.mono ?_;rintro e t ⟨rfl,i⟩);go_ret;rw[n];exact⟨rfl,i⟩
 obtain⟨TT,px,rfl⟩:=yt.form a;have HF:=zd d;have HS:=zd a;have hz:=yt.bd f _ _ a;have am:=Yq (z:=z') hz.1 c S;have u:=Tryz.RZ;have y:=Tryz.S6;have B:=Tryz.S5;have F:=Tryz.S4;have L:=Tryz.S3;have N:=Tryz.RY;have a6:=Tryz.RX;have a7:=Tryz.RV;go_enter func58,ntmps58;go_wp2_with(go_at_call 110;refine(VP f HF _ A (Ud TT px) l m z' (yt.keep ((zg.refl (λ_=>False) w).alloc _) (λ_ _ f=>f) f _ _ HS) c b n P S).mono ?_;rintro e t ⟨rfl,i⟩)
 all_goals
  go_ret;exact⟨qr oa,Ag.trans i⟩
theorem zcF:∀f,VO f
 |0=>λ_ _ _ _ h=>h.elim
 |f+1=>zgR f (zcF f)
theorem vX (w:E)(A:Aj)(v:Y)(z:Int)(h:yt f w A v z):Uh V 32 #[v] w λe c=>e=.returned (M J (min (z+1) 301))/\zke w c:=by
 have d:=yt.bd _ _ _ h;have a:=zd h;go_enter func32,ntmps32;go_wp2_with(go_at_call 58;refine(zcF f _ A v z a).mono ?_;rintro e g ⟨rfl,b⟩)
 all_goals
  go_ret;exact⟨qr oa,b⟩
end
section
namespace Cs
open Tw (zH)
def isCh (c:Int):Bool:=(decide (0<=c) && decide (c<=55295)) ||(decide (57344<=c) && decide (c<=1114111))
def CR (x:Int×Int)(c:Int):Bool:=decide (x.1<=c) && decide (c<=x.2)
theorem inSp_append (a b:Ai)(c:Int):zH (a++b) c=(zH a c ||zH b c):=by simp[zH]
theorem inSp_one:zH [x] c=CR x c:=by simp[zH,CR]
theorem vz (r:Ai)(c:Int):zH (x :: r) c=(CR x c ||zH r c):=by simp[zH,CR]
variable (g)
theorem jF:zH g c=G↔∃x∈g,x.1<=c/\c<=x.2:=by simp[zH]
theorem kU:CR x c=G↔x.1<=c/\c<=x.2:=by simp[CR]
theorem Xl:isCh c=G↔(0<=c/\c<=55295)\/(57344<=c/\c<=1114111):=by simp[isCh]
def BK (x:Int×Int):Prop:=x.1<=x.2/\0<=x.1/\x.2<=1114111
def zQ (g:Ai):Prop:=g.Pairwise (λx y=>x.2+1<y.1)/\∀x∈g,BK x
def clip (b a:Int)(r:Int×Int):Ai:=if max r.1 b<=min r.2 a then [(max r.1 b,min r.2 a)] else []
def LN (r:Int×Int):Ai:=clip 0 55295 r++clip 57344 1114111 r
def BP (rs:Ai):Ai:=rs.flatMap LN
theorem zfL (b a:Int)(r:Int×Int)(c:Int):zH (clip b a r) c=G↔(b<=c/\c<=a)/\r.1<=c/\c<=r.2:=by unfold clip;split;rw[inSp_one,kU];simp only;omega;simp[zH];omega
theorem Fc:zH (LN r) c=(isCh c && CR r c):=by rw[FE,B8,Xl,kU];unfold LN;rw[inSp_append,FG,zfL,zfL];omega
theorem Ds:∀(rs:Ai) (c:Int),zH (BP rs) c=(isCh c && zH rs c)
 | [],c=>by simp[BP,zH]
 |r :: rs,c=>by
  show zH (LN r++BP rs) c=_;rw[inSp_append,Fc,Ds rs c,vz,<-Bool.and_or_distrib_left]
theorem zfM {c b:Int}{r:Int×Int}(d:0<=c)(e:b<=1114111):∀x∈clip c b r,BK x:=by intro x a;unfold clip at a;split at a;obtain rfl:=A5.1 a;refine⟨?_,?_,?_⟩<;>simp only<;>omega;cases a
theorem Dr (rs:Ai):∀x∈BP rs,BK x:=by intro x b;have⟨r,_,a⟩:=Lo.1 b;obtain h|h:=A7.1 a;exact zfM oa oa x h;exact zfM oa oa x h
def BS (acc:Ai)(s:Int×Int):Ai:=
 match acc.getLast? with
 |some l=>if s.1<=l.2+1 then acc.dropLast++[(l.1,max l.2 s.2)] else acc++[s]
 |none=>[s]
def jn (acc xs:Ai):Ai:=xs.foldl BS acc
theorem zfN (s:Int×Int):BS [] s=[s]:=rfl
theorem KW {a:Ai}{l s:Int×Int}(h:s.1<=l.2+1):BS (a++[l]) s=a++[(l.1,max l.2 s.2)]:=by simp[BS,h]
theorem KY {a:Ai}{l s:Int×Int}(h:¬s.1<=l.2+1):BS (a++[l]) s=a++[l]++[s]:=by simp[BS,h]
theorem Zz (xs:Ai):xs=[]\/∃a l,xs=a++[l]:=by obtain h|⟨i,l,h⟩:=List.eq_nil_or_concat xs;exact Q h;exact O ⟨i,l,by simpa using h⟩
theorem IV {acc:Ai}{s:Int×Int}(h:zQ acc)(f:BK s)(m:∀l,acc.getLast?=I l->l.1<=s.1):zQ (BS acc s)/\(∀c,zH (BS acc s) c=(zH acc c ||CR s c))/\∀l,(BS acc s).getLast?=I l->l.1<=s.1:=by
 obtain rfl|⟨q,l,rfl⟩:=Zz acc
 .rw[zfN];refine⟨⟨ov,λx d=>?_⟩,λc=>by rw[inSp_one];simp[zH],λl e=>?_⟩
  grind
  cases e;exact Iv _
 have n:=m l ov;have i:=h.2 l ov;have o:=Io.1 h.1;by_cases g:s.1<=l.2+1
 .rw[KW g];refine⟨⟨Io.2 ⟨o.1,ov,λa j b k=>?_⟩,λx d=>?_⟩,λc=>?_,λp e=>?_⟩
  grind
  obtain d|d:=A7.1 d;exact h.2 x (LC _ d);obtain rfl:=A5.1 d;unfold BK at i f ⊢;simp only;omega;rw[inSp_append,inSp_append,inSp_one,inSp_one,Bool.or_assoc];congr 1;rw[FE,FG,kU,kU,kU];unfold BK at i f;simp only;omega;simp at e;subst e;exact n
 rw[KY g];refine⟨⟨Io.2 ⟨h.1,ov,λa j b k=>?_⟩,λx d=>?_⟩,λc=>?_,λp e=>?_⟩
 grind
 obtain d|d:=A7.1 d;exact h.2 x d;obtain rfl:=A5.1 d;exact f;rw[inSp_append _ [s],inSp_one];simp at e;subst e;exact Iv _
theorem Hv:∀(xs acc:Ai),zQ acc->(∀x∈xs,BK x)->xs.Pairwise (λx y=>x.1<=y.1)->(∀l,acc.getLast?=I l->∀x∈xs,l.1<=x.1)->
  zQ (jn acc xs)/\∀c,zH (jn acc xs) c=(zH acc c ||zH xs c)
 | [],acc,h,_,_,_=>⟨h,λc=>by simp[jn,zH]⟩
 |s :: xs,acc,h,b,j,i=>by
  have⟨d,f,g⟩:=IV h (b s (A8 ..)) (λl e=>i l e s (A8 ..));have⟨k,m⟩:=Cv.1 j;have⟨n,o⟩:=Hv xs (BS acc s) d (λx a=>b x (Bm _ a)) m (λl e x a=>Int.le_trans (g l e) (k x a));refine⟨n,λc=>?_⟩;show zH (jn (BS acc s) xs) c=_;rw[o,f,vz,Bool.or_assoc]
theorem Hj {rs xs:Ai}(a:xs.Perm (BP rs))(e:xs.Pairwise (λx y=>x.1<=y.1)):zQ (jn [] xs)/\∀c,zH (jn [] xs) c=(isCh c && zH rs c):=by have⟨b,d⟩:=Hv xs [] ⟨ov,ov⟩ (λx f=>Dr rs x (a.mem_iff.1 f)) e ov;refine⟨b,λc=>?_⟩;rw[d,<-Ds];simp only[zH,List.any_nil,Bool.false_or];exact a.any_eq
def Be:Int->Ai->Ai
 |b,[]=>[(b,1114111)]
 |b,x :: r=>(b,x.1-1) :: Be (x.2+1) r
theorem zfO:∀(g:Ai) (b:Int),(∀x∈g,b<=x.1)->zQ g->∀y∈Be b g,b<=y.1
 | [],b,_,_,y,a=>by
  obtain rfl:=A5.1 (show y∈[(b,1114111)] from a);exact Iv _
 |x :: r,b,d,h,y,a=>by
  have⟨e,f⟩:=Cv.1 h.1;have i:=h.2 x (A8 ..);have j:=d x (A8 ..);obtain rfl|a:=BZ.1 (show y∈(b,x.1-1) :: Be (x.2+1) r from a);exact Iv _;have:=zfO r (x.2+1) (λz c=>by have:=e z c;omega) ⟨f,λz c=>h.2 z (Bm _ c)⟩ y a;unfold BK at i;omega
theorem zfP:∀(g:Ai) (b c:Int),zQ g->(∀x∈g,b<=x.1)->b<=c->c<=1114111->zH (Be b g) c = !zH g c
 | [],b,c,_,_,f,d=>by
  show zH [(b,1114111)] c=_;rw[inSp_one];simp[zH,CR,f,d]
 |x :: r,b,c,h,o,f,d=>by
  have⟨e,q⟩:=Cv.1 h.1;have s:=h.2 x (A8 ..);have i:zQ r:=⟨q,λy a=>h.2 y (Bm _ a)⟩
  have t:=o x (A8 ..);show zH ((b,x.1-1) :: Be (x.2+1) r) c=_;rw[vz,vz];by_cases p:x.2+1<=c;rw[zfP r (x.2+1) c i (λy a=>by have:=e y a;omega) p d];have k:CR (b,x.1-1) c=Z:=(by rw[G6,ne_eq,kU];unfold BK at s;simp only;omega);have l:CR x c=Z:=(by rw[G6,ne_eq,kU];omega);rw[k,l];simp
  ((have m:zH (Be (x.2+1) r) c=Z:=by rw[G6,ne_eq,jF];rintro⟨y,a,j⟩;exact absurd j.1 (by have:=zfO r (x.2+1) (λy a=>by have:=e y a;omega) i y a;omega));have n:zH r c=Z:=by rw[G6,ne_eq,jF];rintro⟨y,a,j⟩;have:=e y a;omega);rw[m,n,LD,LD,FE,Ly,G6,ne_eq,kU,kU];simp only;omega
variable {g}
theorem Ea (h:zQ g)(c:Int):(isCh c && zH (Be 0 g) c)=(isCh c && !zH g c):=by by_cases a:isCh c=G;rw[zfP g 0 c h (λx b=>(h.2 x b).2.1) (by have:=(Xl c).1 a;omega) (by have:=(Xl c).1 a;omega)];simp[a]
end Cs
open Sm (Tree)
namespace Cs
open Tw (zH Zm kR kt AT)
def vg (T:Tree)(c:Int):Bool:=isCh c && AT T c
def zX (a c:Int):Bool:=isCh c && kR a c
def Ek:Ai:=[(10,10),(13,13),(8232,8233)]
def LM:Ai:=[(97,122),(65,90),(48,57),(95,95)]
theorem zcI:zH LM c=zH kK c:=by rw[FE,jF,jF];simp only[LM,kK,BZ,List.not_mem_nil,or_false];constructor;rintro⟨x,rfl|rfl|rfl|rfl,h⟩;exact⟨(97,122),ov,h⟩;exact⟨(65,90),ov,h⟩;exact⟨(48,57),ov,h⟩;exact⟨(95,95),ov,h⟩;rintro⟨x,rfl|rfl|rfl|rfl,h⟩;exact⟨(48,57),ov,h⟩;exact⟨(65,90),ov,h⟩;exact⟨(95,95),ov,h⟩;exact⟨(97,122),ov,h⟩
theorem M7:(isCh c && zH LM c)=zX 119 c:=by unfold zX kR Zm Ref.setL;rw[iN oa,IN oa];simp[zcI]
theorem zfQ:(isCh c && zH [(48,57)] c)=zX 100 c:=by unfold zX kR Zm Ref.setL;rw[IN oa];simp[Vd]
theorem zfR:(isCh c && zH Qv c)=zX 115 c:=by unfold zX kR Zm Ref.setL;rw[iN oa,iN oa,IN oa];simp
theorem KZ {a b:Int}(h:(a=100/\b=68)\/(a=119/\b=87)\/(a=115/\b=83))(c:Int):(isCh c && !zX a c)=zX b c:=by
 unfold zX kR Zm Ref.setL;obtain⟨rfl,rfl⟩|⟨rfl,rfl⟩|⟨rfl,rfl⟩:=h
 grind
 grind
 grind
theorem Mn:(isCh c && !(isCh c && zH Ek c))=vg Zl c:=by
 unfold vg AT;rw[IN (by rfl)];show _=(isCh c && !zH Ek c)
 cases isCh c<;>simp
theorem I2:(isCh c && zH [(a,a)] c)=vg (ju a) c:=by unfold vg AT;rw[iN (by simp[ju]),IN (by rfl),Tw.inSp_one];rfl
theorem Gb:zX a c=vg (qU a) c:=by unfold vg AT zX;rw[iN (by simp[qU]),iN (by simp[qU]),IN (by rfl)];rfl
variable {R S}
theorem zgS {b:Ai}(d:∀c,zH b c=(S.any λa=>zX a c))(c:Int):(isCh c && zH (R++b) c)=(isCh c && kt R S c):=by rw[inSp_append,d];unfold kt zX;cases h:isCh c;rfl;simp
theorem zfS (neg:Bool)(R:Ai)(S:Ar)(c:Int):vg (vV neg R S) c=(isCh c && (kt R S c != neg)):=by unfold vg AT;rw[iN (by simp[vV]),iN (by simp[vV]),iN (by simp[vV]),IN (by rfl)];rfl
variable (R S)
theorem zgT:(isCh c && !(isCh c && kt R S c))=vg (vV G R S) c:=by rw[zfS];cases isCh c<;>cases kt R S c<;>rfl
theorem zgU:(isCh c && kt R S c)=vg (vV Z R S) c:=by rw[zfS];cases isCh c<;>cases kt R S c<;>rfl
end Cs
namespace Cs
open Tw (zH)
theorem zQ.at (h:zQ g){i:Nat}{x:Int×Int}(a:g[i]?=I x):BK x:=h.2 x (Bg a)
theorem zQ.lt (h:zQ g){i j:Nat}{x y:Int×Int}(d:g[i]?=I x)(e:g[j]?=I y)(b:i<j):x.2+1<y.1:=by obtain⟨a,rfl⟩:=AK.1 d;obtain⟨c,rfl⟩:=AK.1 e;exact Lk.1 h.1 i j a c b
theorem zQ.le (h:zQ g){i j:Nat}{x y:Int×Int}(a:g[i]?=I x)(b:g[j]?=I y)(k:i<=j):x.1<=y.1/\x.2<=y.2:=by
 by_cases e:i=j
 grind
 have f:=h.lt a b oa;have c:=h.at b;have d:=h.at a;unfold BK at c d;omega
theorem GD (h:zQ g){c:Int}{i:Nat}(f:∀(t:Nat) x,t<i->g[t]?=I x->x.2<c)(j:∀(t:Nat) x,i<=t->g[t]?=I x->c<=x.2):zH g c=G↔∃x,g[i]?=I x/\x.1<=c/\c<=x.2:=by
 rw[jF];constructor;rintro⟨x,m,k,l⟩;have⟨t,a⟩:=wM m;by_cases e:t<i;have:=f t x e a;omega;by_cases d:t=i;subst d;exact⟨x,a,k,l⟩;have n:t<D g:=(AK.1 a).1;have b:g[i]?=I (g[i]' oa):=AE oa;have:=h.lt b a oa;have:=j i _ (AD _) b;omega
 grind
theorem EH (h:zQ g){c:Int}{m:Nat}{y:Int×Int}(b:g[m]?=I y)(d:y.2<c):∀(t:Nat) x,t<m+1->g[t]?=I x->x.2<c:=λt x e a=>by have:=h.le a b oa;omega
theorem zgV (h:zQ g){c:Int}{m:Nat}{y:Int×Int}(d:g[m]?=I y)(e:¬y.2<c):∀(t:Nat) x,m<=t->g[t]?=I x->c<=x.2:=λt x a b=>by have:=h.le d b a;omega
def BM (x:Int×Int)(c:Int):Int:=if x.2<c then -1 else if x.1 > c then 1 else 0
theorem zcJ:BM x c<0↔x.2<c:=by unfold BM;split;omega;split<;>omega
variable {x c}
theorem zar:BM x c=0↔x.1<=c/\c<=x.2:=by unfold BM;split;omega;split<;>omega
end Cs
end
section
open Go.RowKit
open Sm (Tree)
namespace Tw
variable {s:Al} {L:Ai}
def JT (a:Int):Int:=if a=0 then 94 else if a=1 then 36 else if a=2 then 98 else 66
section
variable (A:As->Tree->Prop)
def TG:As->Au->Prop
 |c,[]=>c=[]
 |c,t :: r=>∃a b,c=a++b/\A a t/\TG b r
def Uy:As->Au->Prop
 |c,[]=>c=[]
 |c,t :: r=>∃a b bar,c=a++bar :: b/\bar.kind=5/\t.kind=6/\TG A a t.kids/\Uy b r
def vY (d:As)(kids:Au):Prop:=∃c fin b a,d=c++fin/\kids=b++[a]/\Uy A c b/\a.kind=6/\TG A fin a.kids
end
def qH:Nat->As->Tree->Prop
 |0,_,_=>False
 |f+1,b,T=>
  (T.kind=0/\0<=T.a/\T.a<=3/\∃t,b=[t]/\t.kind=2/\t.c=JT T.a/\t.parts=[])\/(∃t,b=[t]/\t.kind=1/\G4 t T)\/
  (T.kind=5/\∃o c a,b=o :: a++[c]/\o.kind=3/\c.kind=4/\TK a/\vY (qH f) a T.kids)\/
  (T.kind=7/\∃a q,b=a++[q]/\q.kind=6/\q.mn=T.a/\q.mx=T.b/\(T.kid.kind=5\/Ls T.kid)/\qH f a T.kid)
section
variable {A B:As->Tree->Prop}
theorem TG.mono (h:∀a t,A a t->B a t):∀(c:As) (l:Au),TG A c l->TG B c l
 |_,[],e=>e
 |_,_ :: r,⟨a,b,e,d,f⟩=>⟨a,b,e,h _ _ d,TG.mono h b r f⟩
theorem Uy.mono (h:∀a t,A a t->B a t):∀(c:As) (l:Au),Uy A c l->Uy B c l
 |_,[],e=>e
 |_,_ :: r,⟨a,b,bar,e,d,f,g,i⟩=>⟨a,b,bar,e,d,f,TG.mono h a _ g,Uy.mono h b r i⟩
theorem vY.mono (h:∀a t,A a t->B a t){b:As}{l:Au}:vY A b l->vY B b l
 |⟨k,fin,i,j,c,d,e,f,g⟩=>⟨k,fin,i,j,c,d,Uy.mono h _ _ e,f,TG.mono h _ _ g⟩
theorem qH.up:∀(f g:Nat) (m:As) (T:Tree),f<=g->qH f m T->qH g m T
 |0,_,_,_,_,h=>h.elim
 |f+1,0,_,_,r,_=>oa
 |f+1,g+1,m,T,r,h=>by
  obtain h|h|⟨d,o,c,b,e,i,j,k,l⟩|⟨d,b,q,e,i,j,k,l,n⟩:=h;exact Q h;exact O (Q h);exact O (O (Q ⟨d,o,c,b,e,i,j,k,vY.mono (λa t p=>qH.up f g a t oa p) l⟩));exact O (O (O ⟨d,b,q,e,i,j,k,l,qH.up f g b T.kid oa n⟩))
end
def jP (s:Al)(L:Ai)(op:Int)(D:Nat->Ts.Out)(F:Nat)(DT:Nat->Tree):Prop:=∀(f:Nat) (l:As) (c:Bool) (n p:Nat),Br s L n p->i s<p+f->ze s p=40->
 ((D n).k≠0->∃e,zO s f l op c (AA p)=(e,((D n).k:Int),(D n).p))/\
 ((D n).k=0->∃b d a,zO s f l op c (AA p)=zO s d (l++b) op G (AA a)/\Br s L (D n).n a/\i s<a+d/\vU b (D n).v/\(DT n).kind=5/\qH F b (DT n))
theorem Gr {atom:Bool}{p:Nat}(d:atom=G->xy (ze s p)=Z):¬(atom=G/\xy (ze s (AA p).i)=G):=λb=>by have c:=d b.1;have a:xy (ze s p)=G:=b.2;rw[c] at a;cases a
theorem Q6 {f:Nat}{l:As}{op:Int}{atom:Bool}{p:Nat}(g:p<i s)(d:atom=G->xy (ze s p)=Z)(c:ze s p≠40)(h:0<=op)(b:(zz s (AA p)).1.kind=1):zO s (f+1) l op atom (AA p)=zO s f (l++[(zz s (AA p)).1]) op G (zz s (AA p)).2:=by
 rw[qX (st:=AA p) ⟨g,rfl⟩ (Gr d) (λe=>c e.1),b];have a:zY 1 op=op:=by unfold zY;simp
 rw[a,iN oa];rfl
theorem zas (m:Bool)(c:Int):Ls (BJ m c):=by cases m;exact⟨by show 1<=2;decide,by show 2<=4;decide⟩;exact⟨by show 1<=3;decide,by show 3<=4;decide⟩
theorem M6 {o:Ts.Out}{v:Int}{st:St}(h:Bl s L o v st)(a:o.k≠0):st.e≠0:=by rw[(h.2 a).1];omega
theorem zgW (aX:i s<=400){op:Int}{D:Nat->Ts.Out}{F:Nat}{DT:Nat->Tree}(hD:jP s L op D (F+1) DT)(am:0<=op){f:Nat}{l:As}{atom:Bool}{n p:Nat}(h:Br s L n p)(hf:i s<p+f)(x:p<i s)(hA:atom=G->xy (ze s p)=Z)(aw:ze s p≠124/\ze s p≠41)(ab:Bn L n=0):((zK L (i s) D n).k≠0->∃N,zO s f l op atom (AA p)=(N,((zK L (i s) D n).k:Int),(zK L (i s) D n).p))/\((zK L (i s) D n).k=0->∃ts f' p',zO s f l op atom (AA p)=zO s f' (l++ts) op G (AA p')/\Br s L (zK L (i s) D n).n p'/\i s<p'+f'/\vU ts (zK L (i s) D n).v/\((xj L (i s) DT n).kind=5\/Ls (xj L (i s) DT n))/\qH (F+1) ts (xj L (i s) DT n)):=by
 have hi:(AA p).i=p:=rfl;have aV:=(zw s p).2 x;have aU:=h.eqv 94 oa;have aT:=h.eqv 36 oa;have S:=h.eqv 92 oa;have ap:=h.eqv 40 oa;have P:=h.eqv 91 oa;have aZ:ze s p≠94/\ze s p≠36:=by unfold Bn at ab;by_cases d:zi L n=94\/zi L n=36;rw[IN d] at ab;cases ab;omega
 have aj:¬(ze s p=92/\(ze s (p+1)=98\/ze s (p+1)=66)):=by rintro⟨k1,k2⟩;have j:=h.go k1 oa oa;unfold Bn at ab;rw[iN (by rw[S.2 k1];omega),IN ⟨S.2 k1,by obtain k|k:=k2;exact Q ((j.eqv 98 oa).2 k);exact O ((j.eqv 66 oa).2 k)⟩] at ab;cases ab
 have hw:Yr (zi L n)=ZD (ze s p):=by
  unfold Yr ZD;obtain⟨e,_⟩|⟨a,b⟩:=h.alike;rw[e]
  grind
 obtain⟨f,rfl⟩:∃f',f=f'+1:=⟨f-1,oa⟩
 by_cases q:ze s p=40
 .have ah:Yr (zi L n)=Z:=by rw[hw,q];decide
  have e:zK L (i s) D n=D n:=by unfold zK;rw[iN (by simp[ah]),IN (ap.2 q)]
  have z:xj L (i s) DT n=DT n:=by unfold xj;rw[IN (ap.2 q)]
  rw[e,z];have⟨d1,d2⟩:=hD (f+1) l atom n p h hf q;refine⟨d1,λg=>?_⟩;have⟨ts,f',p',d3,d4,d5,d6,d7,d8⟩:=d2 g;exact⟨ts,f',p',d3,d4,d5,d6,Q d7,d8⟩
 have X:¬zi L n=40:=λd=>q (ap.1 d);cases hwb:ZD (ze s p)
 .have ah:¬Yr (zi L n)=G:=(by rw[hw,hwb];simp);by_cases u:ze s p=91
  ·((have j:=h.go u oa oa;have e:zK L (i s) D n=Ts.one (qG L (i s) n):=(by unfold zK;rw[iN ah,iN X,IN (P.2 u)]);have o:zz s (AA p)=(⟨1,vI s (AA (p+1)),(y9 s (AA (p+1))).1,0,0,0⟩,(y9 s (AA (p+1))).2):=by unfold zz;rw[hi,iN oa,iN aj,iN oa,iN oa,IN u,AY]);have B:=Q6 (f:=f) (l:=l) x hA q am (by rw[o]);have T:Bl s L (qG L (i s) n) 1 (y9 s (AA (p+1))).2:=by unfold qG y9 yV vI;have aq:(AA (p+1)).i=p+1:=rfl;rw[aq];by_cases t:ze s (p+1)=94;have w:=j.go t oa oa;have:=w.le;have:=w.good.le;rw[IN ((j.eqv 94 oa).2 t),IN (by simp[t]),AY];exact Yv _ _ [] (n+2) (p+1+1) w oa (by show i s<p+1+1+(i s+1-(p+1+1));omega);have:=j.le;have:=j.good.le;rw[iN (λd=>t ((j.eqv 94 oa).1 d)),iN (by simp[t])];exact Yv _ _ [] (n+1) (p+1) j oa (by show i s<p+1+(i s+1-(p+1));omega));have z:xj L (i s) DT n=xS L (i s) n:=(by unfold xj;rw[iN X,IN (P.2 u)]);rw[e,B,o,LI,LJ,z];by_cases g:(qG L (i s) n).k=0
   .have⟨a1,a2,_,a4⟩:=T.1 g;refine⟨λd=>absurd g d,λ_=>⟨_,f,(y9 s (AA (p+1))).2.i,by rw[<-Yt a1 a2],a4,?_,by rw[Cw _ g];exact vU.one rfl (Q3 rfl rfl),O (show Ls _ from⟨by show 1<=4;decide,by show 4<=4;decide⟩),O (Q ⟨_,rfl,rfl,⟨by show 1<=4;decide,by show 4<=4;decide⟩,λc=>?_,by
     show(y9 s (AA (p+1))).1.length<=1000;have hb:=(XX (s:=s) (i s+1-(yV s (AA (p+1))).i) [] (yV s (AA (p+1))) (λp m=>by cases m)).2;show(yP s (i s+1-(yV s (AA (p+1))).i) [] (yV s (AA (p+1)))).1.length<=1000;simp at hb;omega,(XX (s:=s) (i s+1-(yV s (AA (p+1))).i) [] (yV s (AA (p+1))) (λp m=>by cases m)).1⟩)⟩⟩
    rotate_left
    (((show(AU (y9 s (AA (p+1))).1 c != vI s (AA (p+1)))=AT (xS L (i s) n) c;have aL:AU (y9 s (AA (p+1))).1 c=kt (xS L (i s) n).rs (xS L (i s) n).ss c:=by unfold qG at g;unfold y9 yV vI xS;have aq:(AA (p+1)).i=p+1:=rfl;rw[aq];by_cases t:ze s (p+1)=94;have w:=j.go t oa oa;have:=w.le;have:=w.good.le;rw[IN ((j.eqv 94 oa).2 t)] at g;simp only[IN ((j.eqv 94 oa).2 t)];rw[IN (by simp[t]),AY];exact Yw _ _ [] [] [] (n+2) (p+1+1) w oa (by show i s<p+1+1+(i s+1-(p+1+1));omega) g (λ_=>rfl) c;have:=j.le;have:=j.good.le;have ax:¬zi L (n+1)=94:=λd=>t ((j.eqv 94 oa).1 d);rw[iN ax] at g;simp only[iN ax];rw[iN (by simp[t])];exact Yw _ _ [] [] [] (n+1) (p+1) j oa (by show i s<p+1+(i s+1-(p+1));omega) g (λ_=>rfl) c);have aQ:vI s (AA (p+1))=(xS L (i s) n).neg:=by show decide (ze s (p+1)=94)=decide (zi L (n+1)=94);exact decide_eq_decide.2 ((j.eqv 94 oa).symm));rw[aL,aQ];rfl;have aO:p<(y9 s (AA (p+1))).2.i:=by by_cases d:p<(y9 s (AA (p+1))).2.i;exact d;exfalso;have:=Yu h a4 oa;have:=W7 (L:=L) (r:= i s) n (h.lt.2 x);omega);omega
   have he:=T.2 g;have⟨N,W⟩:=vy (s:=s) (f:=f) (l:=l++[⟨1,vI s (AA (p+1)),(y9 s (AA (p+1))).1,0,0,0⟩]) (op:=op) (atom:=G) (M6 T g);have e1:Ts.one (qG L (i s) n)=qG L (i s) n:=(by unfold Ts.one;rw[iN g]);exact⟨λ_=>⟨N,by rw[W,he.1,he.2,e1]⟩,λd=>absurd d g⟩
  by_cases y:ze s p=92
  ·(have e:zK L (i s) D n=Ts.one (xR L (i s) n):=(by unfold zK;rw[iN ah,iN X,iN (λd=>u (P.1 d)),IN (S.2 y)]);have o:zz s (AA p)=(⟨1,Z,[(zF s Z (AA p)).1],0,0,0⟩,(zF s Z (AA p)).2.2):=by unfold zz;rw[hi,iN oa,iN aj,iN oa,iN oa,iN u,IN y]);have B:=Q6 (f:=f) (l:=l) x hA q am (by rw[o]);have T:=(VE Z h y (λd=>by cases d)).1;have z:xj L (i s) DT n=BJ (jy (zi L (n+1))) (xR L (i s) n).v:=(by unfold xj;rw[iN X,iN (λd=>u (P.1 d)),IN (S.2 y)]);rw[e,B,o,LI,LJ,z];by_cases g:(xR L (i s) n).k=0
   .have⟨a1,a2,_,a4⟩:=T.1 g;refine⟨λd=>absurd g d,λ_=>⟨_,f,(zF s Z (AA p)).2.2.i,by rw[<-Yt a1 a2],a4,?_,by rw[Cw _ g];exact vU.one rfl (Q3 rfl rfl),O (zas _ _),O (Q ⟨_,rfl,rfl,zas _ _,λc=>?_,by show 1<=1000;decide,λp m=>by
     have m:p∈[(zF s Z (AA _)).1]:=m;simp at m;subst m;exact VI Z _⟩)⟩⟩
    rotate_left
    (show(AU [(zF s Z (AA p)).1] c != Z)=_;have e0:AU [(zF s Z (AA p)).1] c=Zm (zF s Z (AA p)).1 c:=(by unfold AU;simp);rw[e0];cases hset:jy (zi L (n+1));have w:=(VE Z h y (λd=>by cases d)).2 g;have h3:(zF s Z (AA p)).2.1=G:=(by rw[w.1,hset];rfl);rw[w.2 h3,ZY,inSp_one];simp[AT,BJ,ju];rfl;rw[zco Z h y hset];simp[AT,BJ,qU,kR];rfl;have aO:p<(zF s Z (AA p)).2.2.i:=by by_cases d:p<(zF s Z (AA p)).2.2.i;exact d;exfalso;have:=Yu h a4 oa;have:=NF (L:=L) (r:= i s) n (h.lt.2 x);omega);omega
   have he:=T.2 g;have⟨N,W⟩:=vy (s:=s) (f:=f) (l:=l++[⟨1,Z,[(zF s Z (AA p)).1],0,0,0⟩]) (op:=op) (atom:=G) (M6 T g);have e1:Ts.one (xR L (i s) n)=xR L (i s) n:=(by unfold Ts.one;rw[iN g]);exact⟨λ_=>⟨N,by rw[W,he.1,he.2,e1]⟩,λd=>absurd d g⟩
  have e:zK L (i s) D n=good 1 (n+1):=(by unfold zK;rw[iN ah,iN X,iN (λd=>u (P.1 d)),iN (λd=>y (S.1 d))]);rw[e];refine⟨λd=>absurd rfl d,λ_=>?_⟩;by_cases ai:ze s p=46
  (have o:zz s (AA p)=(⟨1,G,[⟨Z,[(10,10),(13,13),(8232,8233)]⟩],0,0,0⟩,AA (p+1)):=by unfold zz;rw[hi,iN oa,iN aj,iN oa,IN ai,AY]);have B:=Q6 (f:=f) (l:=l) x hA q am (by rw[o]);rw[o] at B;have z:xj L (i s) DT n=Zl:=(by unfold xj;rw[iN X,iN (λd=>u (P.1 d)),iN (λd=>y (S.1 d)),IN ((h.eqv 46 oa).2 ai)]);rw[z];exact⟨_,f,p+1,B,h.go ai oa oa,oa,vU.one rfl (Q3 rfl rfl),O ⟨AD 1,by show 1<=4;decide⟩,O (Q ⟨_,rfl,rfl,⟨AD 1,by show 1<=4;decide⟩,λc=>by simp[Xg,AU,ZY,AT,Zl],by show 1<=1000;decide,λp m=>by simp at m;subst m;simp⟩)⟩
  (have⟨k,c,ho,hg,hn⟩:=h.step x;have o:zz s (AA p)=(⟨1,Z,[⟨Z,[(c,c)]⟩],0,0,0⟩,AA (p+k)):=by unfold zz;rw[hi,iN oa,iN aj,iN oa,iN ai,iN u,iN y,iN q,iN aw.2,iN (by simp[hwb]),ho];rfl);have B:=Q6 (f:=f) (l:=l) x hA q am (by rw[o]);rw[o] at B;have:=qo ho;have W:=(h.letter x ho).1;have z:xj L (i s) DT n=ju c:=(by unfold xj;rw[iN X,iN (λd=>u (P.1 d)),iN (λd=>y (S.1 d)),iN (λd=>ai ((h.eqv 46 oa).1 d)),W]);rw[z];exact⟨_,f,p+k,B,hn,oa,vU.one rfl (Q3 rfl rfl),O ⟨by show 1<=2;decide,by show 2<=4;decide⟩,O (Q ⟨_,rfl,rfl,⟨by show 1<=2;decide,by show 2<=4;decide⟩,λc'=>by simp[Xg,AU,ZY,inSp_one,AT,ju];rfl,by show 1<=1000;decide,λp m=>by simp at m;subst m;simp⟩)⟩
 (have e:zK L (i s) D n=Ts.bad 3 (zA L (i s) n) n:=(by unfold zK;rw[IN (by rw[hw];exact hwb)]);have aY:ze s p=42\/ze s p=43\/ze s p=63\/ze s p=123\/ze s p=125\/ze s p=93:=(by unfold ZD at hwb;simp at hwb;omega);have o:zz s (AA p)=(⟨0,Z,[],0,0,0⟩,⟨p,3,p⟩):=by unfold zz;rw[hi,iN oa,iN aj,iN oa,iN oa,iN oa,iN oa,iN q,iN aw.2,IN hwb,AQ]);rw[e];refine⟨λ_=>?_,λd=>absurd d (by simp[Ts.bad])⟩;rw[qX (st:=AA p) ⟨x,rfl⟩ (Gr hA) (λd=>q d.1),o];have e1:zY 0 op=op:=(by unfold zY;simp);simp only[];rw[e1,iN oa];have⟨N,W⟩:=vy (s:=s) (f:=f) (l:=l++[⟨0,Z,[],0,0,0⟩]) (op:=op) (atom:=((0:Int) == 1) ||((0:Int) == 4)) (st:=⟨p,3,p⟩) (show(3:Int)≠0 by decide);exact⟨N,by rw[W];show(N,(3:Int),(p:Int))=(N,((3:Nat):Int),zA L (i s) n);rw[h.place];rfl⟩
end Tw
namespace Tw
variable {s:Al} {L:Ai}
theorem zgX (aI:i s<=400){op:Int}{D:Nat->Ts.Out}{F:Nat}{DT:Nat->Tree}(hD:jP s L op D (F+1) DT)(aq:Cr L D)(aC:0<=op){f:Nat}{l:As}{atom:Bool}{n p:Nat}(h:Br s L n p)(hf:i s<p+f)(B:p<i s)(P:atom=G->xy (ze s p)=Z)(aJ:ze s p≠124/\ze s p≠41):Goes s L f l op atom p (yJ L (i s) D n) (λm=>Mp (yJ L (i s) D n).v m/\qH (F+2) m (jg L (i s) D DT n)):=by
 have S:(AA p).i=p:=rfl;have aT:=(zw s p).2 B;by_cases c:Bn L n=0
 .have⟨g1,g2⟩:=zgW aI hD aC (l:=l) h hf B P aJ c;have aA:=Vy (r:= i s) aq n (h.lt.2 B);by_cases j:(zK L (i s) D n).k=0
  ·(have⟨m,f1,p1,x,b1,ay,g,aB,aa⟩:=g2 j;have ab:=aA.2.2 j;have T:=zer (s:=s) (L:=L) (l:=l) (op:=op) b1 ay g ab.2.1 ab.2.2 j rfl rfl;have u:yJ L (i s) D n=(if(zx L (i s) (zK L (i s) D n).n).1=Z then zK L (i s) D n else if(zx L (i s) (zK L (i s) D n).n).2.1.k≠0 then(zx L (i s) (zK L (i s) D n).n).2.1 else good (min (kF (zK L (i s) D n).v (zx L (i s) (zK L (i s) D n).n).2.1.v (zx L (i s) (zK L (i s) D n).n).2.2) 301) (Zt L (zx L (i s) (zK L (i s) D n).n).2.1.n)):=by unfold yJ;rw[iN (by simp[c]),iN (by simp[j])]);rw[u];refine⟨λb=>by rw[x];exact T.1 b,λb=>?_⟩;have⟨us,f2,p2,ad,e2,b2,az,au,hP⟩:=T.2 b;refine⟨m++us,f2,p2,ad,by rw[x,e2,Bu],b2,az,au,?_⟩;obtain⟨rfl,W⟩|⟨q,rfl,av,aw,N,aD,aE,aG⟩:=hP
   ((have X:(zx L (i s) (zK L (i s) D n).n).1=Z:=by by_cases w:(zx L (i s) (zK L (i s) D n).n).1=Z;exact w;rw[iN w] at W;exact W.elim);have o:jg L (i s) D DT n=xj L (i s) DT n:=(by unfold jg;rw[iN (by simp[c]),IN X]);rw[IN X,BW,o];exact⟨⟨g.1,g.2.2.2.1,g.2.1⟩,qH.up _ _ _ _ oa aa⟩;have z:¬(zx L (i s) (zK L (i s) D n).n).2.1.k≠0:=λw=>by rw[iN (by simp[N]),IN w] at b;exact w b);have o:jg L (i s) D DT n=vW (xj L (i s) DT n) (zx L (i s) (zK L (i s) D n).n).2.1.v (zx L (i s) (zK L (i s) D n).n).2.2:=(by unfold jg;rw[iN (by simp[c]),iN (by simp[N])]);rw[iN (by simp[N]),iN z,o];refine⟨⟨g.1.append aw,av,?_⟩,O (O (O ⟨rfl,m,q,rfl,aD,aE,aG,aB,aa⟩))⟩;have d:=g.2.1;have h3:=g.2.2.1;cases m with
   |nil=>exact absurd rfl h3
   |cons t a=>exact d
  have u:yJ L (i s) D n=zK L (i s) D n:=(by unfold yJ;rw[iN (by simp[c]),IN j]);rw[u];exact⟨g1,λb=>absurd b j⟩
 have u:yJ L (i s) D n=good 1 (n+Bn L n):=by unfold yJ;rw[IN c]
 rw[u];refine⟨λb=>absurd rfl b,λ_=>?_⟩;obtain⟨f,rfl⟩:∃f',f=f'+1:=⟨f-1,oa⟩
 have hs:∃t k,zz s (AA p)=(t,AA (p+k))/\(t.kind=2/\kG t)/\Br s L (n+Bn L n) (p+k)/\1<=k/\ze s p≠40/\0<=By L n/\By L n<=3/\t.c=JT (By L n)/\t.parts=[]:=by
  unfold Bn at c ⊢;by_cases y:zi L n=94\/zi L n=36
  .rw[IN y];have am:ze s p=94\/ze s p=36:=(by obtain k|k:=y;exact Q ((h.eqv 94 oa).1 k);exact O ((h.eqv 36 oa).1 k));refine⟨⟨2,Z,[],ze s p,0,0⟩,1,?_,⟨rfl,Q3 rfl rfl⟩,h.next oa oa,oa,oa,?_⟩;unfold zz;rw[S,IN am,AY];show 0<=By L n/\By L n<=3/\ze s p=JT (By L n)/\([]:Ba)=[]
   unfold By;obtain k|k:=y;rw[IN k];exact⟨od,od,(h.eqv 94 oa).1 k,rfl⟩;rw[iN oa,IN k];exact⟨od,od,(h.eqv 36 oa).1 k,rfl⟩
  rw[iN y] at c ⊢;by_cases d:zi L n=92/\(zi L (n+1)=98\/zi L (n+1)=66)
  .rw[IN d];have k1:=(h.eqv 92 oa).1 d.1;have e:=h.go k1 oa oa;have k2:ze s (p+1)=98\/ze s (p+1)=66:=(by obtain k|k:=d.2;exact Q ((e.eqv 98 oa).1 k);exact O ((e.eqv 66 oa).1 k));refine⟨⟨2,Z,[],ze s (p+1),0,0⟩,2,?_,⟨rfl,Q3 rfl rfl⟩,e.next oa oa,oa,oa,?_⟩;unfold zz;rw[S,iN oa,IN ⟨k1,k2⟩,AY];show 0<=By L n/\By L n<=3/\ze s (p+1)=JT (By L n)/\([]:Ba)=[]
   unfold By;rw[iN oa,iN oa];by_cases k:zi L (n+1)=98;rw[IN k];exact⟨od,od,(e.eqv 98 oa).1 k,rfl⟩;rw[iN k];exact⟨od,od,(e.eqv 66 oa).1 (by obtain q|q:=d.2;exact absurd q k;exact q),rfl⟩
  rw[iN d] at c;exact absurd rfl c
 have⟨t,k,ah,⟨z,aK⟩,e,aU,ao,aO,aP,aL,aN⟩:=hs;have o:jg L (i s) D DT n=Zk (By L n):=by unfold jg;rw[IN c]
 rw[o];refine⟨[t],f,p+k,Z,?_,e,oa,(λb=>by cases b),⟨TK.one oa oa aK,ye.one oa oa,by show t.kind≠6;omega⟩,Q ⟨rfl,aO,aP,t,rfl,z,aL,aN⟩⟩;rw[qX (st:=AA p) ⟨B,rfl⟩ (Gr P) (λb=>ao b.1),ah];simp only[];rw[z];have x:zY 2 op=op:=by unfold zY;simp
 rw[x,iN oa];rfl
theorem JU {n p:Nat}(h:Br s L n p):Zv L n=G↔(¬p<i s\/ze s p=124\/ze s p=41):=by have a:=h.eqv 124 oa;have b:=h.eqv 41 oa;have c:=h.lt;unfold Zv;simp only[FG,decide_eq_true_eq];constructor;omega;omega
theorem VQ (B:dJ s<=400){op:Int}{D:Nat->Ts.Out}{F:Nat}{DT:Nat->Tree}(w:jP s L op D (F+1) DT)(m:Cr L D)(z:0<=op):∀(g f:Nat) (l:As) (v:Int) (atom:Bool) (n p:Nat),Br s L n p->dJ s<p+f->Bc L<n+g->(atom=G->xy (ze s p)=Z)->0<=v->v<=301->
  Goes s L f l op atom p (xG L s.size D g v n) (λc=>(TK c/\qT c≠6/\∀i,ye i v->ye (i++c) (xG L s.size D g v n).v)/\∃new,(∀zs,jC L s.size D DT g zs n=zs++new)/\TG (qH (F+2)) c new)/\((xG L s.size D g v n).k=0->Zv L (xG L s.size D g v n).n=G)
 |0,f,l,v,atom,n,p,h,o,hg,j,P,au=>by have:=h.le;omega
 |g+1,f,l,v,atom,n,p,h,o,hg,j,P,au=>by
  simp only[xG];by_cases e:Zv L n=G
  .rw[IN e];exact⟨⟨λb=>absurd rfl b,λ_=>⟨[],f,p,atom,by rw[BW],h,o,j,⟨TK.nil,od,λi hu=>by rw[BW];exact hu⟩,[],λzs=>by simp only[jC];rw[IN e,BW],rfl⟩⟩,λ_=>e⟩
  .rw[iN e];have q:=λb=>e ((JU h).2 b);have y:p<dJ s:=Classical.byContradiction λb=>q (Q b);have N:=zgX B w m z (l:=l) h o y j ⟨λb=>q (O (Q b)),λb=>q (O (O b))⟩;have an:=VA (r:= dJ s) m n (h.lt.2 y);by_cases d:(yJ L s.size D n).k=0
   .rw[iN (by simp[d])];have⟨c,f1,p1,T,u,X,ak,ag,⟨hB,ai,x⟩,ap⟩:=N.2 d;have av:=an.2.2 d;have⟨S,r2⟩:=VQ B w m z g f1 (l++c) (min (v+(yJ L s.size D n).v) 301) T _ p1 X ak oa ag oa oa;refine⟨⟨λb=>by rw[u];exact S.1 b,λb=>?_⟩,r2⟩;have⟨i,f2,p2,W,e2,b2,al,ah,⟨af,ad,aj⟩,new,ao,aq⟩:=S.2 b;refine⟨c++i,f2,p2,W,by rw[u,e2,Bu],b2,al,ah,⟨hB.append af,?_,λws hw=>?_⟩,jg L s.size D DT n :: new,λzs=>?_,c,i,rfl,ap,aq⟩
    .cases c with
     |nil=>exact ad
     |cons t a=>exact x
    .rw[<-Bu];exact aj (ws++c) (hw.append ai P av.2.1 x)
    .simp only[jC];rw[iN e,ao,Bu];rfl
   .rw[IN d];exact⟨⟨N.1,λb=>absurd b d⟩,λb=>absurd b d⟩
end Tw
namespace Tw
variable {s:Al} {L:Ai}
theorem VR (ae:s.size<=400){op:Int}{D:Nat->Ts.Out}{F:Nat}{DT:Nat->Tree}(X:jP s L op D (F+1) DT)(B:Cr L D)(ad:0<=op):∀(g f:Nat) (l:As) (zs:Ar) (n p:Nat),Br s L n p->s.size<p+f->Bc L<n+g->(∀z∈zs,0<=z)->
  Goes s L f l op Z p (vx L s.size D g zs n) (λb=>(TK b/\qT b≠6/\∀q,ye q (min (xu 0 zs+Bc zs) 301)->ye (q++b) (vx L s.size D g zs n).v)/\∃new,(∀u,A4 L s.size D DT g u n=u++new)/\vY (qH (F+2)) b new)/\((vx L s.size D g zs n).k=0->Zv L (vx L s.size D g zs n).n=G/\zi L (vx L s.size D g zs n).n≠124)
 |0,f,l,zs,n,p,h,hf,hg,hz=>by have:=h.le;omega
 |g+1,f,l,zs,n,p,h,hf,hg,hz=>by
  have aQ:=h.le;have a2:=XR zs 0 oa oa hz;have⟨S,t2⟩:=VQ ae X B ad (Bc L+1-n) f l 0 Z n p h hf oa (λc=>by cases c) oa oa;have aT:=XS (r:= s.size) B n aQ;have e0:zR L s.size D n=xG L s.size D (Bc L+1-n) 0 n:=rfl;rw[<-e0] at S t2;simp only[vx];by_cases e:(zR L s.size D n).k=0
  .rw[iN (by simp[e])];have⟨b,f1,d,T,x,w,aL,aa,⟨W,o,aI⟩,m,aU,ag⟩:=S.2 e;have ah:qe L s.size D DT n=ZX m:=(by unfold qe;rw[aU,Cd]);have aS:=t2 e;have ai:ye b (zR L s.size D n).v:=aI [] ye.nil;have aj:=aT.2.2 e;have N:=sumS_append zs 0 (zR L s.size D n).v;by_cases j:zi L (zR L s.size D n).n=124
   .rw[IN j];have hb:=(w.eqv 124 oa).1 j;have aR:d<s.size:=(zw s d).1 oa;have b2:=w.go hb oa oa;obtain⟨f1,rfl⟩:∃f',f1=f'+1:=⟨f1-1,oa⟩
    have et:zz s (AA d)=(⟨5,Z,[],0,0,0⟩,AA (d+1)):=by
     have hi:(AA d).i=d:=rfl;unfold zz;rw[hi,iN oa,iN oa,IN hb,AY]
    have af:zO s (f1+1) (l++b) op T (AA d)=zO s f1 (l++b++[⟨5,Z,[],0,0,0⟩]) op Z (AA (d+1)):=by
     rw[qX (st:=AA d) ⟨aR,rfl⟩ (Gr aa) (λc=>by have:ze s d=40:=c.1;omega),et];simp only[];have e5:zY 5 op=op:=(by unfold zY;simp);rw[e5,iN oa];rfl
    have aV:∀z∈zs++[(zR L s.size D n).v],0<=z:=(by grind);have⟨r1,r2⟩:=VR ae X B ad g f1 (l++b++[⟨5,Z,[],0,0,0⟩]) (zs++[(zR L s.size D n).v]) _ (d+1) b2 oa oa aV;refine⟨⟨λc=>by rw[x,af];exact r1.1 c,λc=>?_⟩,r2⟩;have⟨q,f2,p2,ap,e2,b3,aN,aH,⟨aG,a1,aJ⟩,an,aK,al,fin,aW,aX,c1,c2,c3,c4,c5⟩:=r1.2 c;refine⟨b++[⟨5,Z,[],0,0,0⟩]++q,f2,p2,ap,by rw[x,af,e2];simp only[Bu],b3,aN,aH,⟨(W.append (TK.one (show(5:Int)≠3 by decide) (show(5:Int)≠4 by decide) (Q3 rfl rfl))).append aG,?_,λws P=>?_⟩,ZX m :: an,λu=>?_,b++[⟨5,Z,[],0,0,0⟩]++al,fin,ZX m :: aW,aX,by rw[c1];simp only[Bu],by rw[c2];rfl,⟨b,al,⟨5,Z,[],0,0,0⟩,ov,rfl,rfl,ag,c3⟩,c4,c5⟩
    .cases b with
     |nil=>exact(show(5:Int)≠6 by decide)
     |cons t a=>exact o
    .rw[<-Bu,<-Bu];refine aJ _ ?_;have y:=P.append ai oa aj.1 o;have h2:=y.append (ye.bar (t:=⟨5,Z,[],0,0,0⟩) rfl) oa oa (show(5:Int)≠6 by decide);refine h2.Rm ?_ oa ?_
     .grind
     .rw[N];omega
    .simp only[A4];rw[IN j,ah,aK,Bu];rfl
   .rw[iN j];refine⟨⟨λc=>absurd rfl c,λ_=>⟨b,f1,d,T,x,w,aL,aa,⟨W,o,λws P=>?_⟩,[ZX m],λu=>by simp only[A4];rw[iN j,ah],[],b,[],ZX m,rfl,rfl,rfl,rfl,ag⟩⟩,λ_=>⟨aS,j⟩⟩;have y:=P.append ai oa aj.1 o;refine y.Rm ?_ oa ?_
    .show min (min (min (xu 0 zs+Bc zs) 301+_) 301) 301=min (min (xu 0 (zs++[_])+((Bc zs:Int)+1)-1) 301) 301;rw[N];omega
    .show 0<=min (xu 0 (zs++[_])+((Bc zs:Int)+1)-1) 301;rw[N];omega
  .rw[IN e];exact⟨⟨S.1,λc=>absurd c e⟩,λc=>absurd c e⟩
theorem zey:jP s L 10 (zB L (i s) 0) 1 (qL L (i s) 0):=by
 intro f l e n p h g b;have d:p<i s:=(zw s p).1 oa;obtain⟨f,rfl⟩:∃c,f=c+1:=⟨f-1,oa⟩
 refine⟨λ_=>⟨[],?_⟩,λa=>absurd a (by simp[zB,Ts.bad])⟩;rw[QN (st:=AA p) ⟨d,rfl⟩ (λa=>by have:xy (ze s p)=G:=a.2;rw[b] at this;exact absurd this od) ⟨b,rfl⟩];show([],(7:Int),(p:Int))=([],((7:Nat):Int),zA L (i s) n)
 rw[h.place];rfl
theorem zez (aw:s.size<=400){op:Int}{a F:Nat}(aK:0<=op)(aD:op<10)(hD:jP s L (op+1) (zB L s.size a) (F+1) (qL L s.size a)):jP s L op (zB L s.size (a+1)) (F+3) (qL L s.size (a+1)):=by
 intro f l t n p h hf w;have P:p<s.size:=(zw s p).1 oa;have ap:=h.lt.2 P;obtain⟨f,rfl⟩:∃m,f=m+1:=⟨f-1,oa⟩
 have hi:(AA p).i=p:=rfl;have et:zz s (AA p)=(⟨3,Z,[],0,0,0⟩,km s (AA p)):=by unfold zz;rw[hi,iN oa,iN oa,iN oa,iN oa,iN oa,iN oa,IN w]
 have aq:¬(t=G/\xy (ze s (AA p).i)=G):=λb=>by have:xy (ze s p)=G:=b.2;rw[w] at this;exact absurd this od
 have ax:zO s (f+1) l op t (AA p)=zO s f (l++[⟨3,Z,[],0,0,0⟩]) (op+1) Z (km s (AA p)):=by
  rw[qX (st:=AA p) ⟨P,rfl⟩ aq (λb=>by have:=b.2;omega),et];simp only[];have e3:zY 3 op=op+1:=by unfold zY;simp
  rw[e3,iN oa];rfl
 have y:=zgI h w;have ar:=Q1 (L:=L) (r:= s.size) n ap;rw[ax];simp only[zB];unfold wU;by_cases g:(zZ L s.size n).k=0
 .have⟨W,X,_,u⟩:=y.1 g;rw[iN (by simp[g]),Yt W X];have aJ:p<(km s (AA p)).i:=by by_cases b:p<(km s (AA p)).i;exact b;exfalso;have:=Yu h u oa;omega
  have aG:=u.le;have⟨z,T⟩:=VR aw hD (qS a) oa (Bc L+1-(zZ L s.size n).n) f (l++[⟨3,Z,[],0,0,0⟩]) [] (zZ L s.size n).n _ u oa oa ov;have e0:yQ L s.size (zB L s.size a) (zZ L s.size n).n=vx L s.size (zB L s.size a) (Bc L+1-(zZ L s.size n).n) [] (zZ L s.size n).n:=rfl;rw[<-e0] at z T;have ai:=Ys (L:=L) (r:= s.size) (D:=zB L s.size a) (qS a) (zZ L s.size n).n ar.2;by_cases j:(yQ L s.size (zB L s.size a) (zZ L s.size n).n).k=0
  .rw[iN (by simp[j])];have⟨o,e,c,aC,e2,d,aI,aE,⟨B,_,ah⟩,an,aj,ay⟩:=z.2 j;have⟨au,av⟩:=T j;have az:ye o (yQ L s.size (zB L s.size a) (zZ L s.size n).n).v:=ah [] ye.nil;have S:=ai.2.2 j;rw[e2];by_cases q:zi L (yQ L s.size (zB L s.size a) (zZ L s.size n).n).n=41
   .rw[IN q];have x:=(d.eqv 41 oa).1 q;have ao:c<s.size:=(zw s c).1 oa;obtain⟨e,rfl⟩:∃m,e=m+1:=⟨e-1,oa⟩
    refine⟨λb=>absurd rfl b,λ_=>⟨⟨3,Z,[],0,0,0⟩ :: o++[⟨4,Z,[],0,0,0⟩],e,c+1,?_,d.go x oa oa,oa,vU.group rfl rfl (Q3 rfl rfl) (Q3 rfl rfl) B az S.1 S.2,rfl,O (O (Q ⟨rfl,_,_,o,rfl,rfl,rfl,B,?_⟩))⟩⟩
    rotate_left
    (show vY (qH (F+2)) o (A4 L s.size (zB L s.size a) (qL L s.size a) (Bc L+1-(zZ L s.size n).n) [] (zZ L s.size n).n);rw[aj,Cd];exact ay;have am:(AA c).i=c:=rfl;have af:zz s (AA c)=(⟨4,Z,[],0,0,0⟩,AA (c+1)):=by unfold zz;rw[am,iN oa,iN oa,iN oa,iN oa,iN oa,iN oa,iN oa,IN x,AY]);rw[qX (st:=AA c) ⟨ao,rfl⟩ (λb=>by have:xy (ze s c)=G:=b.2;rw[x] at this;exact absurd this od) (λb=>by have:ze s c=40:=b.1;omega),af];simp only[];have e4:zY 4 (op+1)=op:=(by unfold zY;rw[iN od,IN rfl];omega);rw[e4,iN oa];simp only[Bu,Ci,Cd];rfl
   (rw[iN q];refine⟨λ_=>?_,λb=>absurd b (by simp[Ts.bad])⟩;have ak:¬c<s.size:=by rcases(JU d).1 au with k|k|k;exact k;exact absurd ((d.eqv 124 oa).2 k) av;exact absurd ((d.eqv 41 oa).2 k) q);obtain⟨e,rfl⟩:∃m,e=m+1:=⟨e-1,by have:=d.good.le;omega⟩
   rw[Zo (st:=AA c) (λb=>ak b.1),IN oa,AQ];refine⟨l++[⟨3,Z,[],0,0,0⟩]++o,?_⟩;have:=d.good.le;have:=d.place;show(_,(3:Int),( s.size:Int))=(_,((3:Nat):Int),zA L s.size _)
   rw[d.place,show c=s.size by omega];rfl
  rw[IN j];exact⟨z.1,λb=>absurd b j⟩
 rw[IN g];have N:=y.2 g;have⟨l',hl⟩:=vy (s:=s) (f:=f) (l:=l++[⟨3,Z,[],0,0,0⟩]) (op:=op+1) (atom:=Z) (M6 y g);exact⟨λ_=>⟨l',by rw[hl,N.1,N.2]⟩,λb=>absurd b g⟩
theorem Ks (a:i s<=400):∀r:Nat,r<=10->jP s L ((10:Int)-r) (zB L (i s) r) (2*r+1) (qL L (i s) r)
 |0,_=>zey
 |r+1,b=>by
  refine zez a (F:=2*r) oa oa ?_;rw[show((10:Int)-((r+1:Nat):Int))+1=(10:Int)-r by omega];exact Ks a r oa
theorem zeA (u:i s<=400)(h:Br s L 0 0):((yQ L (i s) (zB L (i s) 10) 0).k≠0->∃g,yF s=(g,((yQ L (i s) (zB L (i s) 10) 0).k:Int),(yQ L (i s) (zB L (i s) 10) 0).p))/\((yQ L (i s) (zB L (i s) 10) 0).k=0->((yQ L (i s) (zB L (i s) 10) 0).n=D L->∃b,yF s=(b,0,0)/\TK b/\ye b (yQ L (i s) (zB L (i s) 10) 0).v/\vY (qH 22) b (wV L (i s) (zB L (i s) 10) (qL L (i s) 10) 0).kids)/\((yQ L (i s) (zB L (i s) 10) 0).n≠(D L)->∃g,yF s=(g,3,zA L (i s) (yQ L (i s) (zB L (i s) 10) 0).n))):=by
 have S:jP s L 0 (zB L (i s) 10) 21 (qL L (i s) 10):=Ks u 10 oa;have⟨m,w⟩:=VR u S (qS 10) oa (D L+1-0) (i s+1) [] [] 0 0 h oa oa ov;have y:yQ L (i s) (zB L (i s) 10) 0=vx L (i s) (zB L (i s) 10) (D L+1-0) [] 0:=rfl;rw[<-y] at m w;have F:yF s=zO s (i s+1) [] 0 Z (AA 0):=rfl;rw[F];refine⟨m.1,λr=>?_⟩;have⟨b,d,a,ah,z,c,aj,ai,⟨P,_,T⟩,x,W,af⟩:=m.2 r;have⟨ad,ae⟩:=w r;have ag:ye b _:=T [] ye.nil;rw[z];constructor
 .intro hn;have X:¬a<i s:=λe=>by have:=c.lt.2 e;omega
  obtain⟨d,rfl⟩:∃j,d=j+1:=⟨d-1,by have:=c.good.le;omega⟩
  have aa:(wV L (i s) (zB L (i s) 10) (qL L (i s) 10) 0).kids=x:=(W []).trans (Cd _);refine⟨b,?_,P,ag,by rw[aa];exact af⟩;rw[Zo (st:=AA a) (λe=>X e.1),iN oa];rfl
 intro hn;have t:a<i s:=c.lt.1 (by have:=c.le;omega);have o:ze s a=41:=by rcases(JU c).1 ad with k|k|k;exact absurd t k;exact absurd ((c.eqv 124 oa).2 k) ae;exact k
 obtain⟨d,rfl⟩:∃j,d=j+1:=⟨d-1,oa⟩
 have q:(AA a).i=a:=rfl;have N:zz s (AA a)=(⟨4,Z,[],0,0,0⟩,AA (a+1)):=by unfold zz;rw[q,iN oa,iN oa,iN oa,iN oa,iN oa,iN oa,iN oa,IN o,AY]
 rw[qX (st:=AA a) ⟨t,rfl⟩ (λe=>by have:xy (ze s a)=G:=e.2;rw[o] at this;exact absurd this od) (λe=>by have:ze s a=40:=e.1;omega),N];simp only[];have B:zY 4 0 = -1:=od;rw[B,IN od,AQ,q];have⟨g,hl⟩:=vy (s:=s) (f:=d) (l:=[]++b++[⟨4,Z,[],0,0,0⟩]) (op:=-1) (atom:=((4:Int) == 1) ||((4:Int) == 4)) (st:=⟨a+1,3,a⟩) (show(3:Int)≠0 by decide);exact⟨g,by rw[hl,c.place]⟩
end Tw
namespace Tw
variable {s:Al}
abbrev cont (b:Int):Prop:=128<=b/\b<=191
theorem Nt {k:Nat}(h:cont (ze s k)):k<i s:=(zw s k).1 (by unfold cont at h;omega)
theorem jh (k:Nat)(b a:Int)(d:128<=b)(_c:a<=191):jB s k b a=G↔(b<=ze s k/\ze s k<=a):=by constructor;exact λh=>zb2 h;intro h;exact WX ((zw s k).1 oa) oa oa
theorem zfT {p:Nat}(d:192<=ze s p/\ze s p<224):(cont (ze s (p+1))->xt s p=if Yj 2 ((ze s p-192)*64+ze s (p+1)-128)=G then U else I (2,(ze s p-192)*64+ze s (p+1)-128))/\(¬cont (ze s (p+1))->xt s p=U):=by
 have a:Ref.headK (ze s p)=2:=by unfold Ref.headK headN;rw[iN oa,IN d];rfl
 have c:jU (ze s p)=ze s p-192:=by unfold jU;rw[iN oa,IN d]
 constructor
 .intro b;have:=Nt b;have e:jf s p 1 1 (ze s p-192)=I ((ze s p-192)*64+ze s (p+1)-128):=by rw[qF (by unfold cont at b;omega)];rfl
  unfold xt;rw[a,c,iN oa];simp only[show 2-1=1 from rfl,e]
 intro b;by_cases f:i s<p+2;exact vq (by rw[a];exact O f);exact Yk (by rw[a];omega) (by rw[a,c];exact vp (by unfold cont at b;omega))
theorem zat {p:Nat}(f:224<=ze s p/\ze s p<240):(cont (ze s (p+1))/\cont (ze s (p+2))->xt s p=if Yj 3 (((ze s p-224)*64+ze s (p+1)-128)*64+ze s (p+2)-128)=G then U else I (3,((ze s p-224)*64+ze s (p+1)-128)*64+ze s (p+2)-128))/\(¬(cont (ze s (p+1))/\cont (ze s (p+2)))->xt s p=U):=by
 have a:Ref.headK (ze s p)=3:=by unfold Ref.headK headN;rw[iN oa,iN oa,IN f];rfl
 have d:jU (ze s p)=ze s p-224:=by unfold jU;rw[iN oa,iN oa,IN f]
 constructor
 .rintro⟨b,g⟩;have:=Nt g;have e:jf s p 2 1 (ze s p-224)=I (((ze s p-224)*64+ze s (p+1)-128)*64+ze s (p+2)-128):=by rw[qF (by unfold cont at b;omega),qF (by unfold cont at g;show ¬(ze s (p+2)<128\/191<ze s (p+2));omega)];rfl
  unfold xt;rw[a,d,iN oa];simp only[show 3-1=2 from rfl,e]
 intro b;by_cases h:i s<p+3;exact vq (by rw[a];exact O h);refine Yk (by rw[a];omega) ?_;rw[a,d];show jf s p 2 1 _=U;by_cases c:cont (ze s (p+1));rw[qF (by unfold cont at c;omega)];exact vp (by unfold cont at b c;show ze s (p+2)<128\/191<ze s (p+2);omega);exact vp (by unfold cont at c;omega)
theorem zcK {p:Nat}(g:240<=ze s p/\ze s p<248):(cont (ze s (p+1))/\cont (ze s (p+2))/\cont (ze s (p+3))->xt s p=if Yj 4 ((((ze s p-240)*64+ze s (p+1)-128)*64+ze s (p+2)-128)*64+ze s (p+3)-128)=G then U else I (4,(((ze s p-240)*64+ze s (p+1)-128)*64+ze s (p+2)-128)*64+ze s (p+3)-128))/\(¬(cont (ze s (p+1))/\cont (ze s (p+2))/\cont (ze s (p+3)))->xt s p=U):=by
 have a:Ref.headK (ze s p)=4:=by unfold Ref.headK headN;rw[iN oa,iN oa,iN oa,IN g];rfl
 have f:jU (ze s p)=ze s p-240:=by unfold jU;rw[iN oa,iN oa,iN oa,IN g]
 constructor
 .rintro⟨b,i,h⟩;have:=Nt h;have e:jf s p 3 1 (ze s p-240)=I ((((ze s p-240)*64+ze s (p+1)-128)*64+ze s (p+2)-128)*64+ze s (p+3)-128):=by rw[qF (by unfold cont at b;omega),qF (by unfold cont at i;show ¬(ze s (p+2)<128\/191<ze s (p+2));omega),qF (by unfold cont at h;show ¬(ze s (p+3)<128\/191<ze s (p+3));omega)];rfl
  unfold xt;rw[a,f,iN oa];simp only[show 4-1=3 from rfl,e]
 intro b;by_cases j:dJ s<p+4;exact vq (by rw[a];exact O j);refine Yk (by rw[a];omega) ?_;rw[a,f];show jf s p 3 1 _=U;by_cases c:cont (ze s (p+1));rw[qF (by unfold cont at c;omega)];by_cases d:cont (ze s (p+2));rw[qF (by unfold cont at d;show ¬(ze s (p+2)<128\/191<ze s (p+2));omega)];exact vp (by unfold cont at b c d;show ze s (p+3)<128\/191<ze s (p+3);omega);exact vp (by unfold cont at d;show ze s (p+2)<128\/191<ze s (p+2);omega);exact vp (by unfold cont at c;omega)
def ahead (p:Nat):Option (Nat×Int)->Option (Nat×Int)
 |none=>U
 |some (n,c)=>I (p+n,c)
theorem kW (n:Nat)(c:Int):Yj n c=G↔(c<jz n\/1114111<c\/(55296<=c/\c<=57343)):=by unfold Yj;simp[or_assoc]
theorem Z0 {p:Nat}(r:p<dJ s):qx s p=ahead p (xt s p):=by
 have W:=(zw s p).2 r;have X:=xk s p;have F:jz ((2:Nat):Int)=128:=rfl;have L:jz ((3:Nat):Int)=2048:=rfl;have N:jz ((4:Nat):Int)=65536:=rfl;by_cases f:ze s p<128
 .have j:Ref.headK (ze s p)=1:=by unfold Ref.headK headN;rw[IN f];rfl
  have x:jU (ze s p)=ze s p:=by unfold jU;rw[IN f]
  have z:jz ((1:Nat):Int)=0:=rfl;have:xt s p=I (1,ze s p):=by have:=WQ (s:=s) (p:=p) (c:=ze s p) (by rw[j];omega) (by rw[j,x];rfl) (by rw[j];cases hx:Yj 1 (ze s p) with|false=>rfl|true=>have:=(kW 1 _).1 hx;omega);rw[j] at this;exact this
  rw[this,Kk r f];have:qY (ze s p)=ze s p:=by unfold qY;rw[IN f]
  rw[this];rfl
 by_cases c1:ze s p<192;have j:Ref.headK (ze s p)=0:=(by unfold Ref.headK headN;rw[iN f,iN oa,iN oa,iN oa];rfl);rw[vq (Q j),wL (by unfold jV;rw[iN f,IN oa])];rfl;by_cases i:ze s p<224;have q:=zfT (s:=s) (p:=p) ⟨oa,i⟩;by_cases d:cont (ze s (p+1));rw[q.1 d];by_cases h:ze s p<194;rw[wL (by unfold jV;rw[iN f,IN h]),IN ((kW 2 _).2 (by rw[F];unfold cont at d;omega))];rfl;rw[iN (λe=>by have:=(kW 2 _).1 e;rw[F] at this;unfold cont at d;omega)];rw[jN r (l:=0) (by unfold jV;rw[iN f,iN h,IN i]) oa];show BR s (p+1) _=_;unfold BR;rw[IN ((jh _ _ _ oa oa).2 d)];have:qY (ze s p)=ze s p-192:=(by unfold qY;rw[iN f,IN i];omega);rw[this];rfl;rw[q.2 d];by_cases h:ze s p<194;rw[wL (by unfold jV;rw[iN f,IN h])];rfl;rw[jN r (l:=0) (by unfold jV;rw[iN f,iN h,IN i]) oa];show BR s (p+1) _=_;unfold BR;rw[iN (λe=>d ((jh _ _ _ oa oa).1 e))];rfl;by_cases h:ze s p<240
 .have q:=zat (s:=s) (p:=p) ⟨oa,h⟩
  (have z:qY (ze s p)=ze s p-224:=(by unfold qY;rw[iN f,iN i,IN h];omega);have key:qx s p=(if(if ze s p=224 then 160 else 128)<=ze s (p+1)/\ze s (p+1)<=(if ze s p=237 then 159 else 191) then(if cont (ze s (p+2)) then I (p+3,((ze s p-224)*64+ze s (p+1)-128)*64+ze s (p+2)-128) else U) else U):=by (have w:∀o n:Int,128<=o->n<=191->(if jB s (p+1) o n=G then BR s (p+1+1) (qY (ze s p)*64+ze s (p+1)-128) else U)=(if o<=ze s (p+1)/\ze s (p+1)<=n then(if cont (ze s (p+2)) then I (p+3,((ze s p-224)*64+ze s (p+1)-128)*64+ze s (p+2)-128) else U) else U):=by intro o n j x;by_cases g:o<=ze s (p+1)/\ze s (p+1)<=n;rw[IN ((jh _ _ _ j x).2 g),IN g,z];unfold BR;by_cases d:cont (ze s (p+2));rw[IN ((jh (p+2) _ _ oa oa).2 d),IN d];rw[iN (λe=>d ((jh (p+2) _ _ oa oa).1 e)),iN d];rw[iN (λe=>g ((jh _ _ _ j x).1 e)),iN g]);by_cases k:ze s p=224;rw[jN r (l:=1) (by unfold jV;rw[iN f,iN oa,iN i,IN k]) oa,IN k,iN (show ¬ze s p=237 by omega)];exact w 160 191 oa oa;by_cases v:ze s p=237;rw[jN r (l:=2) (by unfold jV;rw[iN f,iN oa,iN i,iN k,IN v]) oa,iN k,IN v];exact w 128 159 oa oa;rw[jN r (l:=3) (by unfold jV;rw[iN f,iN oa,iN i,iN k,iN v,IN h]) oa,iN k,iN v];exact w 128 191 oa oa);rw[key];by_cases d:cont (ze s (p+1))/\cont (ze s (p+2));rw[q.1 d];have⟨u,m⟩:=d;rw[IN m];by_cases t:Yj 3 (((ze s p-224)*64+ze s (p+1)-128)*64+ze s (p+2)-128)=G;rw[IN t,iN (λe=>by have:=(kW 3 _).1 t;rw[L] at this;unfold cont at u m;split at e<;>split at e<;>omega)];rfl;have S:¬(((ze s p-224)*64+ze s (p+1)-128)*64+ze s (p+2)-128<2048\/1114111<((ze s p-224)*64+ze s (p+1)-128)*64+ze s (p+2)-128\/(55296<=((ze s p-224)*64+ze s (p+1)-128)*64+ze s (p+2)-128/\((ze s p-224)*64+ze s (p+1)-128)*64+ze s (p+2)-128<=57343)):=λe=>t ((kW 3 _).2 (by rw[L];exact e));rw[iN t,IN (by unfold cont at u m;constructor<;>split<;>omega)];rfl;rw[q.2 d];by_cases g:(if ze s p=224 then(160:Int) else 128)<=ze s (p+1)/\ze s (p+1)<=(if ze s p=237 then(159:Int) else 191)
  have u:cont (ze s (p+1)):=(by unfold cont;have⟨a,b⟩:=g;split at a<;>split at b<;>omega);rw[IN g,iN (λe=>d ⟨u,e⟩)];rfl;rw[iN g];rfl
 by_cases P:ze s p<248
 .have q:=zcK (s:=s) (p:=p) ⟨oa,P⟩;have z:qY (ze s p)=ze s p-240:=(by unfold qY;rw[iN f,iN i,iN h];omega);by_cases T:245<=ze s p;rw[wL (by unfold jV;rw[iN f,iN oa,iN i,iN oa,iN oa,iN h,iN oa,iN oa,iN oa])];by_cases d:cont (ze s (p+1))/\cont (ze s (p+2))/\cont (ze s (p+3));rw[q.1 d,IN ((kW 4 _).2 (by unfold cont at d;omega))];rfl;rw[q.2 d];rfl
  (have key:qx s p=(if(if ze s p=240 then 144 else 128)<=ze s (p+1)/\ze s (p+1)<=(if ze s p=244 then 143 else 191) then(if cont (ze s (p+2)) then(if cont (ze s (p+3)) then I (p+4,(((ze s p-240)*64+ze s (p+1)-128)*64+ze s (p+2)-128)*64+ze s (p+3)-128) else U) else U) else U):=by (have w:∀o n:Int,128<=o->n<=191->(if jB s (p+1) o n=G then F4 s (p+1+1) (qY (ze s p)*64+ze s (p+1)-128) else U)=(if o<=ze s (p+1)/\ze s (p+1)<=n then(if cont (ze s (p+2)) then(if cont (ze s (p+3)) then I (p+4,(((ze s p-240)*64+ze s (p+1)-128)*64+ze s (p+2)-128)*64+ze s (p+3)-128) else U) else U) else U):=by intro o n j x;by_cases g:o<=ze s (p+1)/\ze s (p+1)<=n;rw[IN ((jh _ _ _ j x).2 g),IN g,z];unfold F4 BR;by_cases d:cont (ze s (p+2));rw[IN ((jh (p+2) _ _ oa oa).2 d),IN d];by_cases y:cont (ze s (p+3));rw[IN ((jh (p+3) _ _ oa oa).2 y),IN y];rw[iN (λe=>y ((jh (p+3) _ _ oa oa).1 e)),iN y];rw[iN (λe=>d ((jh (p+2) _ _ oa oa).1 e)),iN d];rw[iN (λe=>g ((jh _ _ _ j x).1 e)),iN g]);by_cases k:ze s p=240;rw[jN r (l:=4) (by unfold jV;rw[iN f,iN oa,iN i,iN oa,iN oa,iN h,IN k]) oa,IN k,iN (show ¬ze s p=244 by omega)];exact w 144 191 oa oa;by_cases v:ze s p=244;rw[jN r (l:=6) (by unfold jV;rw[iN f,iN oa,iN i,iN oa,iN oa,iN h,iN k,iN oa,IN v]) oa,iN k,IN v];exact w 128 143 oa oa;rw[jN r (l:=5) (by unfold jV;rw[iN f,iN oa,iN i,iN oa,iN oa,iN h,iN k,IN oa]) oa,iN k,iN v];exact w 128 191 oa oa);rw[key];by_cases d:cont (ze s (p+1))/\cont (ze s (p+2))/\cont (ze s (p+3));rw[q.1 d];have⟨u,m,B⟩:=d;rw[IN m,IN B];by_cases t:Yj 4 ((((ze s p-240)*64+ze s (p+1)-128)*64+ze s (p+2)-128)*64+ze s (p+3)-128)=G;rw[IN t,iN (λe=>by have:=(kW 4 _).1 t;rw[N] at this;unfold cont at u m B;split at e<;>split at e<;>omega)];rfl;have S:¬((((ze s p-240)*64+ze s (p+1)-128)*64+ze s (p+2)-128)*64+ze s (p+3)-128<65536\/1114111<(((ze s p-240)*64+ze s (p+1)-128)*64+ze s (p+2)-128)*64+ze s (p+3)-128\/(55296<=(((ze s p-240)*64+ze s (p+1)-128)*64+ze s (p+2)-128)*64+ze s (p+3)-128/\(((ze s p-240)*64+ze s (p+1)-128)*64+ze s (p+2)-128)*64+ze s (p+3)-128<=57343)):=λe=>t ((kW 4 _).2 (by rw[N];exact e));rw[iN t,IN (by unfold cont at u m B;constructor<;>split<;>omega)];rfl;rw[q.2 d];by_cases g:(if ze s p=240 then(144:Int) else 128)<=ze s (p+1)/\ze s (p+1)<=(if ze s p=244 then(143:Int) else 191)
  have u:cont (ze s (p+1)):=(by unfold cont;have⟨a,b⟩:=g;split at a<;>split at b<;>omega);rw[IN g];by_cases m:cont (ze s (p+2));rw[IN m,iN (λe=>d ⟨u,m,e⟩)];rfl;rw[iN m];rfl;rw[iN g];rfl
 have j:Ref.headK (ze s p)=0:=(by unfold Ref.headK headN;rw[iN f,iN oa,iN oa,iN oa];rfl);rw[vq (Q j),wL (by unfold jV;rw[iN f,iN oa,iN i,iN oa,iN oa,iN h,iN oa,iN oa,iN oa])];rfl
end Tw
namespace Ref
theorem Q7 (l:As):∀(f k:Nat) (op:Int) (m:Nat),scan (l.drop k) op k=I m->D l<k+f->xH l f k op=(m:Int)/\m<D l/\k<=m
 |0,k,op,m,h,c=>by rw[M2 oa] at h;cases h
 |f+1,k,op,m,h,c=>by
  by_cases a:k<D l
  .have b:l.drop k=l[k] :: l.drop (k+1):=MG a;have d:zT l k=l[k].kind:=(by unfold zT;rw[AE a]);rw[b,wN] at h;simp only[xH];rw[IN a,d];by_cases e:zY l[k].kind op=0
   grind
   rw[iN e] at h ⊢;have:=Q7 l f (k+1) _ m h oa;exact⟨this.1,this.2.1,oa⟩
  rw[M2 oa] at h;cases h
theorem zcL:∀(r:As) (op:Int) (a b j:Nat),scan r op a=I j->scan r op (a+b)=I (j+b)
 | [],op,a,b,j,h=>by cases h
 |t :: r,op,a,b,j,h=>by
  rw[wN] at h ⊢;by_cases c:zY t.kind op=0;rw[IN c] at h ⊢;cases h;rfl;rw[iN c] at h ⊢;rw[show a+b+1=a+1+b by omega];exact zcL r _ (a+1) b j h
theorem zeB (r:As)(op:Int)(k j:Nat)(h:scan r op 0=I j):scan r op k=I (j+k):=by have:=zcL r op 0 k j h;rw[Bv] at this;exact this
theorem Qn {l:As}{i j:Nat}(c:i<D l)(a:zT l i=3)(h:scan (l.drop (i+1)) 1 0=I j):qQ l i=((i+j+2:Nat):Int)/\i+j+2<=D l:=by
 have d:=zeB _ _ (i+1) j h;have b:=Q7 l (D l-i) (i+1) 1 _ d oa;have e:xz l i=((j+(i+1):Nat):Int):=by
  unfold xz;rw[show (D l)+1-i=(D l-i)+1 by omega];simp only[xH];have:zY (zT l i) 0=1:=by rw[a];rfl
  rw[IN c,this,iN od];exact b.1
 unfold qQ;rw[IN a,e];omega
theorem zcM {k:Int}{t:Tok}(a:0<=k)(h:kG t):0<=qy k t.mn t.mx:=by unfold kG at h;unfold qy;split;have:0<=(if t.mn=0 then(1:Int) else t.mn)*k:=CQ (by split<;>omega) a;omega;have b:0<=t.mn*k:=CQ h.1 a;have c:0<=(t.mx-t.mn)*(k+1):=CQ oa oa;omega
theorem VS {rest:As}{k:Int}{t:Tok}(h:t∈(zS rest k).2):t∈rest:=by
 unfold zS at h;cases rest with
 |nil=>exact h
 |cons q r=>
  simp only[] at h;split at h;exact Bm _ h;exact h
theorem VT (rest:As)(k:Int):(zS rest k).2.length<=D rest:=by
 unfold zS;cases rest with
 |nil=>exact AD _
 |cons q r=>simp only[];split<;>simp
theorem zau {rest:As}{k:Int}(a:0<=k)(h:∀t∈rest,kG t):0<=(zS rest k).1:=by
 unfold zS;cases rest with
 |nil=>exact a
 |cons q r=>
  simp only[];split;exact zcM a (h q (A8 ..));exact a
theorem zcN:∀(f:Nat) (l:As) (n z b:Int),yK f l n=I z->(∀t∈l,kG t)->0<=n->0<=b->n<=1000000+b->0<=z/\z<=1000000+b+D l:=by
 intro f
 induction f with
 |zero=>intro l n z b h;cases h
 |succ f d=>
  intro l n z b h m v e w;cases l with
  |nil=>simp[yK] at h;subst h;simp;omega
  |cons t r=>
   have c:∀u∈r,kG u:=λu a=>m u (Bm _ a);unfold yK at h;simp only[BH];split at h;have:=d r (n+1) z (b+1) h c oa oa oa;omega;split at h;split at h;cases h;rename_i j s;split at h;cases h;rename_i k o;have p:=(d (r.take j) 0 k 0 o (λu a=>c u (List.mem_of_mem_take a)) oa oa oa).1;have g:∀u∈r.drop (j+1),kG u:=λu a=>c u (List.mem_of_mem_drop a);have q:=zau p g;have:=d _ _ z b h (λu a=>g u (VS a)) oa e oa;have i:=VT (r.drop (j+1)) k;rw[FQ] at i;omega;have q:=zau (k:=1) oa c;have:=d _ _ z b h (λu a=>c u (VS a)) oa e oa;have i:=VT r 1;omega
end Ref
theorem jW.sub {w:E}{g off:Nat}{l:As}(h:jW w g off l)(i m:Nat):jW w g (off+i*6) ((l.drop i).take m):=by
 intro j t a;rw[MI] at a;split at a
 .rw[Hf] at a;have⟨o,q,p,b,c,d,f,k,n⟩:=h (i+j) t a;have e:off+i*6+j*6=off+(i+j)*6:=by omega
  rw[e];exact⟨o,q,p,b,c,d,f,k,n⟩
 cases a
theorem zav (g off cap:Nat)(l:As)(w:E)(h:jW w g off l)(j:D l<=1000)(e:D l<=cap)(c:2<=D l)(a:zT l 0=3):Uh V 73 #[K (I ⟨g,off,U⟩) (D l) cap] w λx b=>x=.returned (K (I ⟨g,off+6,U⟩) (D l-2) (cap-1))/\b=w:=by
 have i:dx w ⟨g,off,U⟩=I (M J (zT l 0)):=by have:=h.kind 0 oa;rw[FV,BD] at this;exact this
 have d:(zT l 0 == 3)=G:=by simp[a]
 have f:¬cap=1:=oa;go_enter func73,ntmps73;go_wp2;go_ret;exact⟨by rw[show (D l)-2=D l-1-1 by omega];rfl,rfl⟩
def BE (f:Nat):Prop:=∀(g b a:Nat) (l:As) (w:E) (z:Int),jW w g b l->D l<=1000->D l<=a->(∀t∈l,kG t)->yK f l 0=I z->
 Uh V 36 #[K (I ⟨g,b,U⟩) (D l) a] w λx c=>x=.returned (M J z)/\zke w c
theorem jW.only {w a:E}{g off:Nat}{l:As}(h:jW w g off l)(k:zke w a):jW a g off l:=by intro j t c;have⟨d,m,i,n,o,q,r,s,u⟩:=h j t c;have e:∀(p:Addr) (v:Y),dx w p=I v->dx a p=I v:=λp v b=>(k.cell (zic w p b) id).trans b;exact⟨d,m,i,e _ _ n,e _ _ o,e _ _ q,e _ _ r,e _ _ s,e _ _ u⟩
namespace Ref
theorem QE {l:As}{i:Nat}(a:i<D l):zT l i=l[i].kind:=by unfold zT;rw[AE a]
theorem JV {l:As}{i:Nat}(a:i<D l):l.drop i=l[i]:: l.drop (i+1):=MG a
theorem zcO {rest:As}{k:Int}(h:qT rest≠6):zS rest k=(k,rest):=by
 unfold zS;cases rest with
 |nil=>rfl
 |cons q r=>simp only[];rw[iN (show ¬q.kind=6 from h)]
theorem JW {l:As}{i:Nat}:qT (l.drop i)=zT l i:=by unfold qT zT;rw[Hf,BD]
theorem E5 {l:As}{i:Nat}(h:¬(i<D l/\zT l i=6)):qT (l.drop i)≠6:=by rw[JW];intro a;by_cases b:i<D l;exact h ⟨b,a⟩;unfold zT at a;rw[Hh oa] at a;exact absurd a od
end Ref
theorem Ns {x y X Y:Int}(d:0<=x)(e:x<=X)(c:0<=y)(f:y<=Y):0<=x*y/\x*y<=X*Y:=by refine⟨CQ d c,?_⟩;have a:=Lr e c;have b:=Int.mul_le_mul_of_nonneg_left f (show(0:Int)<=X by omega);omega
theorem Q8 {g off cap:Nat}{l:As}{i j:Nat}{w:E}(h:jW w g off l)(f:D l<=1000)(e:D l<=cap)(d:i+j+2<=D l)(b:zT l i=3):Uh V 73 #[K (I ⟨g,off+i*6,U⟩) (i+j+2-i) (cap-i)] w λx c=>x=.returned (K (I ⟨g,off+i*6+6,U⟩) (i+j+2-i-2) (cap-i-1))/\c=w:=by
 have a:((l.drop i).take (j+2)).length=i+j+2-i:=by rw[FI,FQ];omega
 have:=zav g (off+i*6) (cap-i) ((l.drop i).take (j+2)) w (h.sub i (j+2)) (by rw[a];omega) (by rw[a];omega) (by rw[a];omega) (by
  unfold zT at b ⊢;rw[MI,IN oa,Hf,BD];exact b)
 rw[a] at this;exact this
theorem Q9 (b:BE F){g off cap:Nat}{l:As}{i j f:Nat}{k:Int}{w:E}(h:jW w g off l)(q:D l<=1000)(p:D l<=cap)(o:i+j+2<=D l)(c:∀t∈l,kG t)(e:yK f ((l.drop (i+1)).take j) 0=I k)(d:f<=F):Uh V 36 #[K (I ⟨g,off+i*6+6,U⟩) (i+j+2-i-2) (cap-i-1)] w λx n=>x=.returned (M J k)/\zke w n:=by
 have a:((l.drop (i+1)).take j).length=i+j+2-i-2:=by rw[FI,FQ];omega
 have:=b g (off+(i+1)*6) (cap-i-1) ((l.drop (i+1)).take j) w k (h.sub (i+1) j) (by rw[a];omega) (by rw[a];omega) (λt m=>c t (List.mem_of_mem_drop (List.mem_of_mem_take m))) (Xf e d);rw[a,show off+(i+1)*6=off+i*6+6 by omega] at this;exact this
namespace Ref
theorem zcP {l:As}{i:Nat}{k:Int}(a:i<D l)(b:zT l i=6):zS (l.drop i) k=(qy k l[i].mn l[i].mx,l.drop (i+1)):=by rw[JV a];unfold zS;simp only[];rw[IN (by rw[<-QE a];exact b)]
end Ref
theorem QF (x:Int):(if(1000000:Int)<x then(1000000:Int) else x)=min 1000000 x:=by split<;>omega
theorem zeC (F:Nat)(hF:BE F):BE (F+1):=by
 intro g P an l w z h v s hb hz;have aK:=zd h;have HF:=zd hF;have HB:=zd hb;clear h hF hb;go_enter func36,ntmps36;go_wp2;go_loopw[3,4] (λa b wr=>∃(i f:Nat) (n:Int),a=M J n/\b=M J i/\i<=D l/\f<=F+1/\0<=n/\n<=1000000+i/\zke w wr/\H (yK f (l.drop i) n=I z)) (λ_ b _=>D l-(intOf b).toNat);exact⟨0,F+1,0,rfl,rfl,oa,oa,oa,oa,zg.refl _ _,hz⟩;obtain⟨i,f,n,rfl,rfl,hi,hf,a5,a6,p,HZ⟩:=hrel;have q:=zd (aK.only p);obtain⟨f,rfl⟩:∃f',f=f'+1:=by
  cases f with
  |zero=>exact absurd (zb HZ) (by simp[yK])
  |succ f=>exact⟨f,rfl⟩
 by_cases aa:i<D l
 .have a4:=q.kind i aa;have ah:=JV aa;have W:=QE aa;by_cases T:zT l i=5
  ·(have L:H (yK f (l.drop (i+1)) (n+1)=I z):=by have:=zb HZ;rw[ah] at this;unfold yK at this;rw[IN (by rw[<-W];exact T)] at this;exact this);have aQ:(zT l i == 5)=G:=(by simp[T]);clear T ah W;go_wp2;exact⟨⟨i+1,f,n+1,rfl,Ae,oa,oa,oa,oa,p,L⟩,Ad⟩
  have aQ:(zT l i == 5)=Z:=(by simp[T]);obtain⟨e,k,hE,aZ,a2,a3,L,HG⟩:∃(e:Nat) (k:Int),qQ l i=(e:Int)/\(i<e/\e<=D l)/\0<=k/\k<=1010000/\H (yK f (zS (l.drop e) k).2 (min 1000000 (n+(zS (l.drop e) k).1))=I z)/\((zT l i == 3)=G/\zT l i=3/\¬an=i/\(∃j,e=i+j+2/\i+j+2<=D l/\H (yK f ((l.drop (i+1)).take j) 0=I k))\/(zT l i == 3)=Z/\e=i+1/\k=1):=by
   by_cases m:zT l i=3
   ·(obtain⟨j,k,hj,hk,L⟩:∃j k,scan (l.drop (i+1)) 1 0=I j/\yK f ((l.drop (i+1)).take j) 0=I k/\H (yK f (zS ((l.drop (i+1)).drop (j+1)) k).2 (min 1000000 (n+(zS ((l.drop (i+1)).drop (j+1)) k).1))=I z):=by have:=zb HZ;rw[ah] at this;unfold yK at this;rw[iN (by rw[<-W];exact T),IN (by rw[<-W];exact m)] at this;split at this;cases this;rename_i j hj;split at this;cases this;rename_i k hk;exact⟨j,k,hj,hk,this⟩);have⟨hE,r⟩:=Qn aa m hj;have aS:=zcN f _ 0 k 0 hk (λu hu=>zb HB u (List.mem_of_mem_drop (List.mem_of_mem_take hu))) oa oa oa;rw[G5,show i+1+(j+1)=i+j+2 by omega] at L;have:((l.drop (i+1)).take j).length<=D l:=by(rw[FI,FQ];omega)
    exact⟨i+j+2,k,hE,⟨oa,oa⟩,aS.1,oa,L,Q ⟨by simp[m],m,oa,j,rfl,oa,hk⟩⟩
   refine⟨i+1,1,by unfold qQ;rw[iN m];omega,⟨oa,oa⟩,oa,oa,?_,O ⟨by simp[m],rfl,rfl⟩⟩;have:=zb HZ;rw[ah] at this;unfold yK at this;rw[iN (by rw[<-W];exact T),iN (by rw[<-W];exact m)] at this;exact this
  have HE:=zd hE;by_cases hq:e<D l/\zT l e=6
  ·(have⟨aB,aC⟩:=hq;have HC:H (∀w',zke w w'->∃pa pn pc,dx w' ⟨g,P+e*6,U⟩=I (M J l[e].kind)/\dx w' ⟨g,P+e*6+1,U⟩=I (C l[e].neg)/\dx w' ⟨g,P+e*6+2,U⟩=I (K pa pn pc)/\dx w' ⟨g,P+e*6+3,U⟩=I (M J l[e].c)/\dx w' ⟨g,P+e*6+4,U⟩=I (M J l[e].mn)/\dx w' ⟨g,P+e*6+5,U⟩=I (M J l[e].mx)):=λw' ho=>(aK.only ho) e l[e] (AE aB);have aO:=zb HB l[e] (BO aB);have HN:H (yR l i=(e:Int)+1):=(by show _=_;unfold yR;rw[hE,IN ⟨oa,by rw[CH];exact aC⟩]);have am:H (yK f (l.drop (e+1)) (min 1000000 (n+qy k l[e].mn l[e].mx))=I z):=by have:=zb L;rw[zcP aB aC] at this;exact this);have a8:=zcM (k:=k) (t:=l[e]) oa aO;unfold kG at aO;generalize l[e].mn=d at *;generalize l[e].mx=o at *;generalize l[e].neg=ng at *;generalize l[e].c=cc at *;generalize l[e].kind=kd at *;clear hE ah W T aC L;have⟨pa,pn,pc,z0,z1,z2,z3,z4,z5⟩:=zb HC _ p;by_cases az:o<0
   .by_cases ai:d=0
    .have aT:(d == 0)=G:=(by simp[ai]);have S:H (1*k+1=qy k d o):=(by show _=_;unfold qy;rw[IN az,IN ai]);clear ai;obtain⟨ae,m,ax,j,rfl,r,HK⟩|⟨ae,rfl,rfl⟩:=HG
     case' inl=>have H3:=zd m;have B:=zd r;clear m r
     all_goals
      go_wp2_with(first|(go_at_call 72;refine AL (ZO g P an l i _ q v s aa) ?_;rw[zb HE,zb HN])|(go_at_call 73;refine AL (Q8 q v s B H3) ?_)|(go_at_call 36;refine(Q9 HF q v s B HB HK oa).mono ?_;rintro e w1 ⟨rfl,N⟩;have⟨pa,pn,pc,z0,z1,z2,z3,z4,z5⟩:=zb HC w1 (p.trans N))|(go_at_call 74;refine AL (Yf _ _ _) ?_));exact⟨⟨_,f,_,by first|rw[QF,show n+(k+1)=n+qy _ d o by((rw[<-zb S])<;>omega)]|rw[QF,show n+2=n+qy _ d o by((rw[<-zb S])<;>omega)],Ae,oa,oa,oa,oa,by first|exact(p.trans N).alloc _|exact p.alloc _,am⟩,Ad⟩
    have aT:(d == 0)=Z:=(by simp[ai]);have S:H (d*k+1=qy k d o):=(by show _=_;unfold qy;rw[IN az,iN ai]);have aV:=Ns (x:=d) (y:=k) (X:=100) (Y:=1010000) oa oa oa oa;clear ai;obtain⟨ae,m,ax,j,rfl,r,HK⟩|⟨ae,rfl,rfl⟩:=HG
    case' inl=>have H3:=zd m;have B:=zd r;clear m r
    all_goals
     go_wp2_with(first|(go_at_call 72;refine AL (ZO g P an l i _ q v s aa) ?_;rw[zb HE,zb HN])|(go_at_call 73;refine AL (Q8 q v s B H3) ?_)|(go_at_call 36;refine(Q9 HF q v s B HB HK oa).mono ?_;rintro e w1 ⟨rfl,N⟩;have⟨pa,pn,pc,z0,z1,z2,z3,z4,z5⟩:=zb HC w1 (p.trans N))|(go_at_call 74;refine AL (Yf _ _ _) ?_));exact⟨⟨_,f,_,by first|rw[QF,show n+(d*k+1)=n+qy _ d o by((rw[<-zb S])<;>omega)]|rw[QF,show n+(d+1)=n+qy _ d o by((rw[<-zb S])<;>omega)],Ae,oa,oa,oa,oa,by first|exact(p.trans N).alloc _|exact p.alloc _,am⟩,Ad⟩
   have S:H (d*k+(o-d)*(k+1)=qy k d o):=(by show _=_;unfold qy;rw[iN az]);have aV:=Ns (x:=d) (y:=k) (X:=100) (Y:=1010000) oa oa oa oa;have a7:=Ns (x:=o-d) (y:=k+1) (X:=100) (Y:=1010001) oa oa oa oa;obtain⟨ae,m,ax,j,rfl,r,HK⟩|⟨ae,rfl,rfl⟩:=HG
   case' inl=>have H3:=zd m;have B:=zd r;clear m r
   all_goals
    go_wp2_with(first|(go_at_call 72;refine AL (ZO g P an l i _ q v s aa) ?_;rw[zb HE,zb HN])|(go_at_call 73;refine AL (Q8 q v s B H3) ?_)|(go_at_call 36;refine(Q9 HF q v s B HB HK oa).mono ?_;rintro e w1 ⟨rfl,N⟩;have⟨pa,pn,pc,z0,z1,z2,z3,z4,z5⟩:=zb HC w1 (p.trans N))|(go_at_call 74;refine AL (Yf _ _ _) ?_));exact⟨⟨_,f,_,by first|rw[QF,show n+(d*k+(o-d)*(k+1))=n+qy _ d o by((rw[<-zb S])<;>omega)]|rw[QF,show n+(d+(o-d)*2)=n+qy _ d o by((rw[<-zb S])<;>omega)],Ae,oa,oa,oa,oa,by first|exact(p.trans N).alloc _|exact p.alloc _,am⟩,Ad⟩
  (have HN:H (yR l i=(e:Int)):=(by show _=_;unfold yR;rw[hE,iN (λhh=>hq ⟨oa,by have:=hh.2;rw[CH] at this;exact this⟩)]);have am:H (yK f (l.drop e) (min 1000000 (n+k))=I z):=by have:=zb L;rw[zcO (E5 hq)] at this;exact this);clear hE ah W T L;obtain⟨ae,m,ax,j,rfl,r,HK⟩|⟨ae,rfl,rfl⟩:=HG
  case' inl=>have H3:=zd m;have B:=zd r;clear m r
  all_goals
   go_wp2_with(first|(go_at_call 72;refine AL (ZO g P an l i _ q v s aa) ?_;rw[zb HE,zb HN])|(go_at_call 73;refine AL (Q8 q v s B H3) ?_)|(go_at_call 36;refine(Q9 HF q v s B HB HK oa).mono ?_;rintro e w1 ⟨rfl,N⟩)|(go_at_call 74;refine AL (Yf _ _ _) ?_));exact⟨⟨_,f,_,by rw[QF],Ae,oa,oa,oa,oa,by first|exact p.trans N|exact p,am⟩,Ad⟩
 (have L:H (n=z):=by have:=zb HZ;rw[M2 oa] at this;unfold yK at this;exact Bz this);go_wp2;go_ret;rw[zb L];exact⟨rfl,p⟩
theorem zgY:∀f,BE f:=by
 intro f
 induction f with
 |zero=>intro g d c l w z _ _ _ _ a;exact absurd a (by simp[yK])
 |succ f b=>exact zeC f b
theorem zgZ:Uh V 36 #[K U 0 0] w λx a=>x=.returned (M J 0)/\a=w:=by go_enter func36,ntmps36;go_wp2_with fail;refine wp_loop_rounds 1 ?_;rw[rounds_succ];go_wp2;go_ret;exact⟨rfl,rfl⟩
namespace Ref
theorem Xm (s:Al):∀(f:Nat) (l:As) (op:Int) (atom:Bool) (st:St),(zO s f l op atom st).1.length<=D l+f
 |0,l,_,_,_=>by simp[zO]
 |f+1,l,op,atom,st=>by
  unfold zO;split;split;exact AP (Xm s f _ _ _ _) ou;split;simp;exact AP (Xm s f _ _ _ _) ou;simp
theorem Xn:(yF s).1.length<=i s+1:=by have:=Xm s (i s+1) [] 0 Z ⟨0,0,0⟩;simp only[Cc] at this;unfold yF;omega
theorem VU (s:Al):∀(f p:Nat) (acc:Ai),(qb s f p acc).2<0->(qb s f p acc).2 = -1
 |0,p,acc=>by simp[qb]
 |f+1,p,acc=>by
  intro h;by_cases a:p<i s
  .cases h1:xt s p with
   |none=>rw[q9 a h1] at h;simp only[] at h;omega
   |some b=>
    have⟨n,c⟩:=b;rw[qm a h1] at h ⊢;exact VU s f _ _ h
  rw[ke a]
theorem vF {s:Al}(h:(zu s).2<0):Good s 0:=YK s (i s+1) 0 [] oa (VU s _ _ _ h) oa
end Ref
theorem Ja {w:E}{base:Nat}:∀(l:As) (a:An),xr w base l a->∀(j:Nat) (t:Tok),l[j]?=I t->∃c e d,
  a[j*6]?=I (M J t.kind)/\a[j*6+1]?=I (C t.neg)/\a[j*6+2]?=I (K c e d)/\a[j*6+3]?=I (M J t.c)/\a[j*6+4]?=I (M J t.mn)/\a[j*6+5]?=I (M J t.mx)
 | [],_,_,j,t,b=>by simp at b
 |u :: f,a0 :: a1 :: a2 :: a3 :: a4 :: a5 :: vs,h,0,t,b=>by
  simp only[Ir,Option.some.injEq] at b;subst b;obtain⟨⟨rfl,rfl,rfl,rfl,rfl⟩,⟨xs,g,_⟩,_⟩:=h;obtain⟨c,e,d,rfl⟩:=zq g;exact⟨c,e,d,rfl,rfl,rfl,rfl,rfl,rfl⟩
 |u :: f,a0 :: a1 :: a2 :: a3 :: a4 :: a5 :: vs,h,j+1,t,b=>by
  have⟨c,e,d,z⟩:=Ja f vs h.2.2 j t (by simpa using b);exact⟨c,e,d,by
   rw[show(j+1)*6=j*6+6 by omega];exact z⟩
 |_ :: _,[],h,_,_,_=>absurd h id
 |_ :: _,[_],h,_,_,_=>absurd h id
 |_ :: _,[_,_],h,_,_,_=>absurd h id
 |_ :: _,[_,_,_],h,_,_,_=>absurd h id
 |_ :: _,[_,_,_,_],h,_,_,_=>absurd h id
 |_ :: _,[_,_,_,_,_],h,_,_,_=>absurd h id
theorem zcQ {w:E}{base:Nat}{v:Y}{l:As}(h:xK w base v l):(v=K U 0 0/\l=[])\/∃g cap,v=K (I ⟨g,0,U⟩) (D l) cap/\base<=g/\(D l)<=cap/\jW w g 0 l:=by
 have⟨b,p,n⟩:=h;have⟨f,i⟩:=p;obtain⟨rfl,P⟩|⟨g,cap,e,rfl,c,k,d,o,q,r⟩:=i
 grind
 refine O ⟨g,cap,rfl,c,d,?_⟩;intro j t m;have⟨s,x,u,y,z,B,F,L,N⟩:=Ja l b n j t m;have S:j<D l:=by grind
 have a:w.ownsRow base 177 6 (K (I ⟨g,0,U⟩) (D l) cap) (D l) b:=⟨f,O ⟨g,cap,e,rfl,c,k,d,o,q,r⟩⟩
 exact⟨s,x,u,by rw[Bv,a.cellAt _ oa];exact y,by rw[Bv,a.cellAt _ oa];exact z,by rw[Bv,a.cellAt _ oa];exact B,by rw[Bv,a.cellAt _ oa];exact F,by rw[Bv,a.cellAt _ oa];exact L,by rw[Bv,a.cellAt _ oa];exact N⟩
theorem VV {w:E}{base:Nat}{v:Y}{l:As}{z:Int}(h:xK w base v l)(j:D l<=1000)(d:∀t∈l,kG t)(m:JP l 0 z):Uh V 36 #[v] w λx b=>x=.returned (M J z)/\zke w b:=by
 have⟨f,a⟩:=m;obtain⟨rfl,rfl⟩|⟨g,c,rfl,_,i,k⟩:=zcQ h
 .have:z=0:=by
   cases f with
   |zero=>simp[yK] at a
   |succ f=>unfold yK at a;exact(Bz a).symm
  subst this;exact(zgZ w).mono (by rintro e b ⟨rfl,rfl⟩;exact⟨rfl,zg.refl _ _⟩)
 exact zgY f g 0 c l w z k j i d a
theorem WB (b:200<i s):Uh V 16 #[Uc s] w λx a=>x=.returned (Ue #[Ua U,M J 2,M J 200])/\a=w:=by go_enter func16,ntmps16;go_wp2;go_ret3;exact⟨rfl,rfl⟩
theorem WC (g:dJ s<=200)(f:0<=(zu s).2):Uh V 16 #[Uc s] w λx d=>x=.returned (Ue #[Ua U,M J 1,M J (zu s).2])/\zke w d:=by generalize a:(zu s).2=A at *;go_enter func16,ntmps16;go_wp2_with(go_at_call 34;refine(vr s _ oa).mono ?_;rintro e k ⟨v,rfl,c,b⟩;rw[a];obtain⟨h,j,i,rfl⟩:=zq c);go_ret3;exact⟨rfl,b⟩
theorem Jb (p:dJ s<=200)(h:(zu s).2<0)(i:(yF s).2.1≠0):Uh V 16 #[Uc s] w λx l=>x=.returned (Ue #[Ua U,M J (yF s).2.1,M J (yF s).2.2])/\zke w l:=by
 have HG:=zd (vF h);generalize b:(zu s).2=A at *;generalize c:(yF s).2.1=a at *;generalize g:(yF s).2.2=P at *;have n:(a == 0)=Z:=by simp[i]
 go_enter func16,ntmps16;go_wp2_with(first|(go_at_call 34;refine(vr s _ oa).mono ?_;rintro e F ⟨v,rfl,j,d⟩;rw[b];obtain⟨q,t,r,rfl⟩:=zq j)|(go_at_call 35;refine(Qu s _ oa HG).mono ?_;rintro e L ⟨B,rfl,⟨m,k,o⟩,f⟩;rw[c,g];obtain⟨u,z,y,rfl⟩:=zq k));go_ret3;exact⟨rfl,d.trans f⟩
theorem zbi (z:Int)(B:s.size<=200)(o:(zu s).2<0)(p:(yF s).2.1=0)(b:∀t∈(yF s).1,kG t)(c:JP (yF s).1 0 z)(u:300<=z)(y:z<=10000000):Uh V 16 #[Uc s] w λx r=>x=.returned (Ue #[Ua U,M J 8,M J 0])/\zke w r:=by have HG:=zd (vF o);have d:=zd b;have h:=zd c;have f:=zd (Xn s);generalize i:(zu s).2=A at *;generalize m:(yF s).2.2=P at *;generalize n:(yF s).1=X at *;go_enter func16,ntmps16;go_wp2_with(first|(go_at_call 34;refine(vr s _ oa).mono ?_;rintro e w1 ⟨v,rfl,q,j⟩;rw[i];obtain⟨F,N,L,rfl⟩:=zq q)|(go_at_call 35;refine(Qu s _ oa HG).mono ?_;rintro e w2 ⟨v2,rfl,a,k⟩;rw[p,m];rw[n] at a;obtain⟨S,W,T,rfl⟩:=zq a.choose_spec.1;have g:=zd a)|(go_at_call 36;refine(VV g (by have:=zb f;omega) d h).mono ?_;rintro e w3 ⟨rfl,l⟩));go_ret3;exact⟨rfl,(j.trans k).trans l⟩
end
section
open Go.RowKit Go.Shelf
attribute [local go_sem] Oper.semAt_some
namespace Ts
def zP (s:Al):Nat->Nat->Ai
 |0,_=>[]
 |f+1,p=>match qx s p with
  |none=>[]
  |some (n,c)=>((p:Int),c) :: zP s f n
end Ts
theorem xE.Po {w d:E}{b:Nat}{s:Al}{h p:Nat}{j:Int}(c:xE w b s h p j)(k:ZV w d):xE d b s h p j:=by
 have e:=k.same b ⟨s,c.c0⟩;exact⟨(FX (w:=w) (a:=⟨b,0,U⟩) e).trans c.c0,(FX (w:=w) (a:=⟨b,1,U⟩) e).trans c.c1,(FX (w:=w) (a:=⟨b,2,U⟩) e).trans c.c2,(FX (w:=w) (a:=⟨b,3,U⟩) e).trans c.c3,
  (MD (w:=w) (a:=⟨b,1,U⟩) e).trans c.f1,(MD (w:=w) (a:=⟨b,2,U⟩) e).trans c.f2,(MD (w:=w) (a:=⟨b,3,U⟩) e).trans c.f3⟩
def IP (w:E)(b:Nat):Nat:=match dx w ⟨b,1,U⟩ with
 |some (.int _ n)=>n.toNat
 |_=>0
theorem zfU {w:E}{b:Nat}{s:Al}{h p:Nat}{j:Int}(a:xE w b s h p j):IP w b=h:=by unfold IP;rw[a.c1];simp
variable {s n}
theorem DN {c:Int}(h:qx s p=I (n,c)):p<n/\n<=i s/\0<=c/\c<=1114111:=by
 by_cases a:p<i s
 .rw[Z0 a] at h;cases h1:xt s p with
  |none=>rw[h1] at h;cases h
  |some b=>
   have⟨m,d⟩:=b;rw[h1] at h;simp only[Tw.ahead,Option.some.injEq,Prod.mk.injEq] at h;obtain⟨rfl,rfl⟩:=h;have:=qo h1;exact⟨oa,oa,oa,oa⟩
 unfold qx at h;rw[iN a] at h;cases h
theorem zfV (s:Al):∀(f p:Nat),zP s f p=Ca s f p
 |0,_=>rfl
 |f+1,p=>by
  unfold zP Ca;by_cases a:p<i s
  .rw[IN a,Z0 a];cases h1:xt s p with
   |none=>rfl
   |some b=>
    have⟨m,d⟩:=b;simp only[Tw.ahead];rw[zfV s f (p+m)]
  rw[iN a];unfold qx;rw[iN a]
theorem DL {q:Nat}{j c:Int}{w:E}(a:xE w b s h p j)(l:dJ s<=400)(i:h<=dJ s)(k:qx s h=I (q,c)):Uh V 136 #[Ua (I ⟨b,0,U⟩)] w λx f=>x=.returned (C G)/\xE f b s q h c/\zg (zr b) w f:=by
 refine(zb3 b s h p j w a l i).mono ?_;rintro e r ⟨n,g⟩;obtain⟨o,c1,d,rfl,m⟩|⟨d,_⟩:=g
 grind
 rw[k] at d;cases d
theorem Gi {w:E}(a:xE w b s h p j)(k:dJ s<=400)(g:h<=dJ s)(i:qx s h=U):Uh V 136 #[Ua (I ⟨b,0,U⟩)] w λx l=>x=.returned (C Z)/\zg (zr b) w l:=by refine(zb3 b s h p j w a k g).mono ?_;rintro e o ⟨f,d⟩;obtain⟨n,c1,c,rfl,m⟩|⟨_,rfl⟩:=d;rw[i] at c;cases c;exact⟨rfl,f⟩
theorem E3 (s:Al)(S:dJ s<=400)(t:Nat)(u:E)(N:dx u ⟨t,0,U⟩=I (Uc s))(n:Nat)(aB:1<=n):Ms Fence.wide n V 135 #[Ua (I ⟨t,0,U⟩)] (λx:Int×Int=>#[M J x.1,M Ug x.2]) (zP s (dJ s+1) 0) u:=by
 intro l ad W hO w B h0;have b:=(hO.cell (p:=⟨t,0,U⟩) (zic u _ N) id).trans N;refine callsIn_of_wp func135 rfl trivial ?_ rfl;simp only[ntmps135,Cu,BH,Cc,Nat.reduceAdd,Nat.reduceSub,G9,He,G7,G8,Cd,Ci];have ak:xE (dB W (Ub #[Uc s,M J 0,M J 0,M Ug 0] 290)) (k W.heap) s 0 0 0:=⟨zj W _ rfl _ _ 0 _ rfl,zj W _ rfl _ _ 1 _ rfl,zj W _ rfl _ _ 2 _ rfl,zj W _ rfl _ _ 3 _ rfl,zt W _ rfl _ _ 1,zt W _ rfl _ _ 2,zt W _ rfl _ _ 3⟩
 have i:=zd w;have HY:=zd B
 gi_wp2
 gi_loopw [6] (λ_ wr=>∃(a:Ai) (f p X:Nat) (j:Int),xE wr (k W.heap) s p X j/\p<=dJ s/\H (dJ s<p+f)/\H (a++zP s f p=zP s (dJ s+1) 0)/\H (ad a wr)) (λ_ wr=>dJ s+1-IP wr (k W.heap))
 case atStart=>exact⟨[],dJ s+1,0,0,0,ak,oa,(by show _<_;omega),rfl,zb i _ _ _ h0 ((zg.refl _ W).alloc _)⟩
 case round=>
  have⟨a,f,p,X,j,o,P,F,T,L⟩:=hrel;obtain⟨f,rfl⟩:∃f',f=f'+1:=⟨f-1,by have:=zb F;omega⟩
  have d:=zd o;have al:=zfU o;cases hr:qx s p with
  |none=>
   have HE:H (a=zP s (dJ s+1) 0):=by
    have:=zb T;simp only[zP] at this;rw[hr,BW] at this;exact this
   gi_wp2_with (refine⟨trivial,?_⟩;gi_at_call 136;refine(callsIn_wide.2 (Gi d S P hr)).mono ?_;rintro e g ⟨rfl,r⟩)
   refine⟨λ_ h=>(by cases h),?_⟩;have m:=zb i a _ g L (r.mono (λk _ b=>⟨by unfold zr at b;omega,by unfold zr at b;rw[b];exact⟨s,d.c0⟩⟩))
   gi_wp2
   go_end0
   exact⟨⟨_,rfl⟩,by rw[<-zb HE];exact m⟩
  |some qc=>
   have⟨q,c⟩:=qc;have v:H (a++[((p:Int),c)]++zP s f q=zP s (dJ s+1) 0):=by
    have e:zP s (f+1) p=((p:Int),c) :: zP s f q:=(by simp only[zP];rw[hr]);have:=zb T;rw[e] at this;show _=_;rw[<-this];simp
   have aA:=DN hr
   gi_wp2_with (refine⟨trivial,?_⟩;gi_at_call 136;refine(callsIn_wide.2 (DL d S P hr)).mono ?_;rintro e g ⟨rfl,y,r⟩;have m:=zb i a _ g L (r.mono (λk _ b=>⟨by unfold zr at b;omega,by unfold zr at b;rw[b];exact⟨s,d.c0⟩⟩));have⟨fn,aC,assign,body,hy,hR⟩:=zb HY a ((p:Int),c) g m ⟨zP s f q,v⟩;dsimp only at hy;have ab:=zd y;have⟨d0,d1,d2,d3,g1,g2,g3⟩:=y)
   refine hR.mono ?_;rintro e W3 ⟨rfl,ag,aj⟩;have z:=ab.Po aj;have am:=zfU z
   gi_wp2
   exact⟨⟨a++[((p:Int),c)],f,q,p,c,z,oa,(by show _<_;have:_<_:=zb F;omega),v,ag⟩,by rw[am,al];omega⟩
variable (s)
theorem E4:Uh V 83 #[Uc s] w λx a=>x=.returned (.func (.func 135) #[] #[Ua (I ⟨k (u w),0,U⟩)])/\a=dB w (Ub #[Uc s] 9):=by go_enter func83,ntmps83;go_wp2;go_ret;exact⟨rfl,rfl⟩
namespace Ts
def jv (c:Int):Int:=if c<=127 then 1 else if c<=2047 then 2 else if c<=65535 then 3 else 4
end Ts
theorem zcR (k:0<=c)(l:c<=1114111)(d:¬(55296<=c/\c<=57343)):Uh V 84 #[M Ug c] w λx i=>x=.returned (M J (jv c))/\i=w:=by
 by_cases b:c<=127
 .have a:H (jv c=1):=by unfold jv;rw[IN b];rfl
  go_enter func84,ntmps84;go_wp2;go_ret;rw[zb a];exact⟨rfl,rfl⟩
 by_cases e:c<=2047
 .have a:H (jv c=2):=(by unfold jv;rw[iN b,IN e];rfl);go_enter func84,ntmps84;go_wp2;go_ret;rw[zb a];exact⟨rfl,rfl⟩
 by_cases f:c<=65535
 .have a:H (jv c=3):=(by unfold jv;rw[iN b,iN e,IN f];rfl);by_cases g:55296<=c
  .have j:¬c<=57343:=λh=>d ⟨g,h⟩;go_enter func84,ntmps84;go_wp2;go_ret;rw[zb a];exact⟨rfl,rfl⟩
  go_enter func84,ntmps84;go_wp2;go_ret;rw[zb a];exact⟨rfl,rfl⟩
 have a:H (jv c=4):=(by unfold jv;rw[iN b,iN e,iN f];rfl);go_enter func84,ntmps84;go_wp2;go_ret;rw[zb a];exact⟨rfl,rfl⟩
variable {s}
theorem Gn {c:Int}(h:xt s p=I (n,c)):jv c=(n:Int):=by
 have⟨o,q,r,k,_⟩:=qo h;have l:=(zw s p).2 oa;have t:=xk s p;have m:n=1\/n=2\/n=3\/n=4:=oa;have e:headN (ze s p)=(n:Int):=by rw[Vf,<-k]
 unfold headN at e;by_cases j:ze s p<128;rw[Vi l j] at h;obtain⟨rfl,rfl⟩:=Prod.mk.inj (Bz h);unfold jv;rw[IN oa];rfl;rw[iN oa] at e;by_cases f:192<=ze s p/\ze s p<224;have⟨y,nn⟩:=zfT f;by_cases a:cont (ze s (p+1));rw[y a] at h;split at h;cases h;rename_i b;rw[kW] at b;obtain⟨rfl,rfl⟩:=Prod.mk.inj (Bz h);have d:jz ((2:Nat):Int)=128:=rfl;rw[d] at b;unfold cont at a;unfold jv;rw[iN oa,IN oa];rfl;rw[nn a] at h;cases h;by_cases g:224<=ze s p/\ze s p<240;have⟨y,nn⟩:=zat g;by_cases a:cont (ze s (p+1))/\cont (ze s (p+2));rw[y a] at h;split at h;cases h;rename_i b;rw[kW] at b;obtain⟨rfl,rfl⟩:=Prod.mk.inj (Bz h);have d:jz ((3:Nat):Int)=2048:=rfl;rw[d] at b;unfold cont at a;unfold jv;rw[iN oa,iN oa,IN oa];rfl;rw[nn a] at h;cases h;by_cases i:240<=ze s p/\ze s p<248;have⟨y,nn⟩:=zcK i;by_cases a:cont (ze s (p+1))/\cont (ze s (p+2))/\cont (ze s (p+3));rw[y a] at h;split at h;cases h;rename_i b;rw[kW] at b;obtain⟨rfl,rfl⟩:=Prod.mk.inj (Bz h);have d:jz ((4:Nat):Int)=65536:=rfl;rw[d] at b;unfold cont at a;unfold jv;rw[iN oa,iN oa,iN oa];rfl;rw[nn a] at h;cases h;rw[iN f,iN g,iN i] at e;omega
attribute [local go_sem] Oper.semAt_some
namespace Ts
def xU:Ai->An
 | []=>[]
 |(a,b) :: r=>M J a :: M Ug b :: xU r
theorem KJ (l m:Ai):xU (l++m)=xU l++xU m:=by
 induction l with
 |nil=>rfl
 |cons x l c=>have⟨a,b⟩:=x;simp[xU,c]
def wZ (l:Ai):Int:=l.foldl (λ_ x=>x.1+jv x.2) 0
theorem VW (l:Ai)(x:Int×Int):wZ (l++[x])=x.1+jv x.2:=by unfold wZ;simp
theorem K1 (s:Al):∀(f p:Nat) (x:Int×Int),x∈zP s f p->0<=x.1/\x.1<=i s/\0<=x.2/\x.2<=1114111/\¬(55296<=x.2/\x.2<=57343)
 |0,_,x,h=>by simp[zP] at h
 |f+1,p,x,h=>by
  simp only[zP] at h;by_cases a:p<i s
  .rw[Z0 a] at h;cases h1:xt s p with
   |none=>rw[h1] at h;simp[Tw.ahead] at h
   |some b=>
    have⟨m,d⟩:=b;rw[h1] at h;simp only[Tw.ahead,BZ] at h;have c:=qo h1;obtain rfl|h:=h;omega;exact K1 s f _ x h
  rw[show qx s p=U by unfold qx;rw[iN a]] at h;simp at h
theorem Za (s:Al):∀(f p:Nat),(zP s f p).length<=f
 |0,_=>by simp[zP]
 |f+1,p=>by
  simp only[zP];split;simp;simp;exact Za s f _
theorem zcS:1<=jv c/\jv c<=4:=by unfold jv;(repeat' split)<;>omega
end Ts
theorem zg.later {P Q:Aj}{a w c:E}(h:zg P a w)(k:zg Q w c)(e:∀i,Q i->X (u a)<=i):zg P a c:=
 ⟨k.os.trans h.os,k.tape.trans h.tape,k.output.trans h.output,AP h.size k.size,λi b d=>(k.block i (AM b h.size) (λq=>by have:=e i q;omega)).trans (h.block i b d)⟩
theorem Tryz.OG:(prog.info? 207).map (λi=>(i.zero,i.size,i.bytes))=I (I (Uf #[M J 0,M Ug 0]),2,16):=om
def UI (w:E)(a:Ai)(W:E):Prop:=∃v,Boxed W (k (u w)) 119 v/\dA W (k (u w)+3) 207 2 v (D a) (xU a)/\(a=[]->v=K U 0 0)/\
 Boxed W (k (u w)+1) 3 (M J (wZ a))/\zke w W/\k (u w)+3<=k (u W)
theorem UI.keep {w:E}{f:Ai}{A A':E}(h:UI w f A)(b:zg (λk=>X w.heap+3<=k/\(Dp A k\/∃o,A.heap[k]?=I o/\o.isCells=Z)) A A'):UI w f A':=by
 have⟨v,j,c,l,m,u,y⟩:=h;refine⟨v,(b.block _ j.lt (λL=>oa)).trans j,?_,l,(b.block _ m.lt (λL=>oa)).trans m,u.later b (λi S=>oa),AP y b.size⟩;refine⟨c.1,?_⟩;obtain⟨rfl,e⟩|⟨g,p,q,rfl,z,d,B,F,N,P⟩:=c.2;exact Q ⟨rfl,e⟩;refine O ⟨g,p,q,rfl,z,(b.block g (A1.1 d).1 ?_).trans d,B,F,N,P⟩;rintro⟨_,a⟩;obtain⟨t,a⟩|⟨o,n,a⟩:=a
 .cases f with
  |nil=>have:=l rfl;cases this
  |cons x r=>
   have s:=c.cellAt 0 ov;rw[s] at a;simp[xU] at a
 rw[d] at n;cases n;cases a
theorem UI.Po {w W W':E}{f:Ai}{v:Y}{e:Int}(m:Boxed W (X (u w)) 119 v)(p:∃a b c,v=K a b c)(i:W.ownsRow (X (u w)+3) 207 2 v (D f) (xU f))(n:f=[]->v=K U 0 0)(o:Boxed W (X (u w)+1) 3 (M J e)) (j:zg (λk=>k=X (u w)\/k=X (u w)+1\/dH v=I k) W W'):ZV W W':=by
 refine⟨j.size,?_⟩;rintro k ⟨t,d⟩;refine j.block k (zic W _ d) ?_;rintro(rfl|rfl|h);obtain⟨a,b,c,rfl⟩:=p;rw[m.cell] at d;cases d;rw[o.cell] at d;cases d;obtain⟨rfl,e⟩|⟨g,q,s,rfl,_⟩:=i.2;simp[dH] at h;simp[dH] at h;subst h;cases f with
 |nil=>have:=n rfl;cases this
 |cons x r=>
  have l:=i.cellAt 0 ov;rw[l] at d;simp[xU] at d
theorem Kt (s:Al)(B:Int)(hm:(s.size:Int)<=B)(hs:s.size<=400)(w:E)(T:TypeId)(y:Y)(aG:dx w ⟨1,0,U⟩=I (Ud T y))(_hw:10<=dg (u w)):Uh V 46 #[Uc s,M J B] w λx w'=>zke w w'/\((¬wZ (zP s (s.size+1) 0)<s.size/\∃v,x=.returned (Ue #[v,Ui])/\w'.ownsRow (dg (u w)+3) 207 2 v (zP s (s.size+1) 0).length (xU (zP s (s.size+1) 0)))\/ (wZ (zP s (s.size+1) 0)<s.size/\∃v,x=.returned (Ue #[K U 0 0,v])/\zJ w' (dg (u w)) v (Ud T y) (wZ (zP s (s.size+1) 0)))):=by
 have⟨i0,r,ae,af,ag⟩:=info_parts Tryz.OG;refine(callsIn_wide (n:=5)).1 ?_;refine callsIn_of_wp_marks func46 rfl trivial ?_ rfl;simp only[ntmps46,Cu,BH,Cc,Nat.reduceAdd,Nat.reduceSub,G9,He,G7,G8,Cd,Ci]
 gi_wp2_with (refine⟨trivial,?_⟩;gi_at_call 83;refine(callsIn_wide.2 (E4 s _)).mono ?_;rintro e c ⟨rfl,rfl⟩)
 have b1:=((Boxed.new w 119 (K U 0 0)).alloc (Ub #[M J 0] 3)).alloc (Ub #[Uc s] 9);have b2:=(Boxed.new (dB w (Ub #[K U 0 0] 119)) 3 (M J 0)).alloc (Ub #[Uc s] 9);have b3:=(Boxed.new ((dB w (Ub #[K U 0 0] 119)).alloc (Ub #[M J 0] 3)) 9 (Uc s)).cell;have aW:zke w (((dB w (Ub #[K U 0 0] 119)).alloc (Ub #[M J 0] 3)).alloc (Ub #[Uc s] 9)):=(((zg.refl _ w).alloc _).alloc _).alloc _;have hz:(((dB w (Ub #[K U 0 0] 119)).alloc (Ub #[M J 0] 3)).alloc (Ub #[Uc s] 9)).heap.size=dg (u w)+3:=ov
 simp only[Iu] at b2 b3;generalize (((dB w (Ub #[K U 0 0] 119)).alloc (Ub #[M J 0] 3)).alloc (Ub #[Uc s] 9))=W0 at *;have HS:=zd (Ur r (Ur ae (Ur af ag)));clear r ae af ag;refine zb4 (F:=Fence.wide) rfl oa (gf:=135) (lb:=#[Ua (I ⟨dg (u w)+1+1,0,U⟩)]) rfl trivial (enters_of func135 om rfl)
  (E3 s hs (dg (u w)+1+1) W0 b3 4 oa) (λ_=>rfl) (UI w) (λb A A' h hA=>h.keep (hA.mono (λk _ hp=>⟨by have:=hp.1;omega,hp.2⟩)))
  ⟨K U 0 0,b1,A0 _ _ _ _,λ_=>rfl,b2,aW,oa⟩
  (λx=>{ tmps:=#[Uc s,M J B,undef,undef,K U 0 0,Ui,Ua (I ⟨dg (u w),0,U⟩),Ua (I ⟨dg (u w)+1,0,U⟩),M J x.1,M Ug x.2,Uc s,M J s.size,M J B,C (decide (B<(s.size:Int))),undef,undef,undef,Uc s,.func (.func 135) #[] #[Ua (I ⟨dg (u w)+1+1,0,U⟩)],M J x.1,M Ug x.2,undef,undef,undef,undef,undef,undef,undef,undef,undef,undef,undef,undef,undef,undef,undef,undef,undef,undef],defers:=[] }) ?assign ?body ?done
 case assign=>
  intro l x W a9 m;gi_wp2;exact m
 case body=>
  rintro l b x W ⟨v,d,a,aC,j,t,aH⟩ aE;have⟨r,ae,af,ag⟩:=zb HS;have aZ:=K1 s (s.size+1) 0 x (aE.subset ov);have bj:D b+1<=401:=by have:=aE.length_le;have h2:=Za s (s.size+1) 0;simp at this;omega
  have⟨a3,a4,ay,az,aA⟩:=aZ;have a0:=zcS x.2;obtain⟨L,P,N,rfl⟩:=zq a;have k1:=d.cell;have ao:=zd a;have⟨xa,S⟩:=x;simp only[] at a3 a4 ay az aA a0 ⊢
  gi_wp2_with (gi_at_builtin;refine zb ?_)
  refine zd ?_;refine wpListIn_append_own _ rfl _ _ 119 rfl (dg (u w)+3) 207 i0 (Uf #[M J 0,M Ug 0]) 2 16 underlying119 r ae af ag rfl od (K L P N) _ _ rfl (AZ a _) ⟨dg (u W),0,U⟩ 1 1 [M J xa,M Ug S] rfl rfl (cell_two_new _ _ _ _) (λu hu=>by simp at hu;obtain rfl|rfl:=hu<;>rfl) Ac oa ou ?_;intro v' c aj z _;obtain⟨g',ac,rfl⟩:=ownsRow_succ aj;have ab:Boxed c (dg (u w)) 119 (K L P N):=(d.alloc _).kept z (d.not_row od a);have ar:Boxed c (dg (u w)+1) 3 (M J (wZ b)):=(j.alloc _).kept z (j.not_row od a);have aa:=ar.other (B':=dg (u w)) oa (K (I ⟨g',0,U⟩) (D b+1) ac);have aP:H (zg (λk=>k=dg (u w)\/k=dg (u w)+1\/(K L P N).ownBlock=I k) W c):=((zg.refl _ W).alloc _).grown z (λk e=>Q (O (O e)));have aO:H (KeepsOthers W c):=(KeepsOthers.alloc W _).trans (KeepsOthers.of_grownBy z λq o ej hj=>by
   rcases(AZ a (Ub #[M J xa,M Ug S] 207)).2 with⟨e,_⟩|⟨g,bb,bc,e,_,aX,_⟩;cases e;simp[dH] at ej;cases e;obtain rfl:g=q:=(by simpa [dH] using ej);rw[aX] at hj;cases hj;rfl)
  have r1:=ab.cell;have r2:=ab.frozen;have r3:=aa.cell;have r4:=aa.frozen;have an:=zd aj;have al:=zd ab;have am:=zd aa;have aL:=zd j;have aN:=zd d;clear a aj z ab aa ar j d
  gi_wp2_with (refine⟨trivial,?_⟩;gi_at_call 84;refine(CallsIn.inRound l (callsIn_wide.2 (zcR S _ ay az aA))).mono ?_;rintro e wq ⟨rfl,aJ⟩;obtain rfl:=aJ.symm;clear aJ)
  have ai:=(aP.setCell (p:=⟨dg (u w),0,U⟩) (Q (Q rfl)) (K (I ⟨g',0,U⟩) (D b+1) ac)).setCell (p:=⟨dg (u w)+1,0,U⟩) (Q (O (Q rfl))) (M J (xa+jv S));have aK:=an.kept (grownBy_setCell' c (dg (u w)) (K (I ⟨g',0,U⟩) (D b+1) ac)) (O (Boxed.not_row al od an).symm);have a7:=aK.kept (grownBy_setCell' _ (dg (u w)+1) (M J (xa+jv S))) (O (Boxed.not_row am od aK).symm);refine⟨((aO.trans (KeepsOthers.setCell _ _ _)).trans (KeepsOthers.setCell _ _ _)).from _,UI.Po aN ⟨L,P,N,rfl⟩ ao aC aL ai,?_⟩;refine⟨K (I ⟨g',0,U⟩) (D b+1) ac,Boxed.other (Boxed.set _ al) oa _,?_,λh=>by simp at h,?_,t.later ai ?_,AP aH ai.size⟩;rw[KJ,AO];exact a7;rw[VW];exact Boxed.set _ am;rintro i (rfl|rfl|r);omega;omega;have:=ao.lt i r;omega
 case done=>
  rintro X W hD ⟨v,d,a,aC,j,t,aH⟩ m;have bh:0<=wZ (zP s (s.size+1) 0)/\wZ (zP s (s.size+1) 0)<=500:=by obtain e|⟨b,x,e⟩:=List.eq_nil_or_concat (zP s (s.size+1) 0);rw[e];simp[wZ];have hm:=K1 s (s.size+1) 0 x (by rw[e];simp);have hr:=zcS x.2;rw[e,List.concat_eq_append,VW];omega
  have bl:=(t.cell (p:=⟨1,0,U⟩) (zic w _ aG) id).trans aG;obtain⟨L,P,N,rfl⟩:=zq a;have k1:=d.cell;have k2:=j.cell;generalize aw:wZ (zP s (s.size+1) 0)=en at *;by_cases hE:en<s.size
  .gi_wp2_with (refine⟨trivial,?_⟩;gi_at_call 55;refine(callsIn_wide.2 (jt T y en _)).mono ?_;rintro e c ⟨v,rfl,hv,ax⟩)
   subst aw;have aU:X<dg (u W):=(A1.1 m).1;have aV:=(ax.block X aU id).trans m;refine⟨ov,Q ⟨_,_,rfl,run_takeDeferred aV,?_⟩⟩;refine⟨_,results_tmp2 rfl _ _ _,((t.trans ax).putObj _ _ (O oa)),O ⟨v,rfl,?_⟩⟩;exact(hv.keep ((zg.refl (λk=>k=X) c).putObj X _ (Q rfl)) (λg hg=>oa)).base (base':=dg (u w)) oa
  gi_wp2;subst aw;refine⟨ov,Q ⟨_,_,rfl,run_takeDeferred m,?_⟩⟩;refine⟨_,results_tmp2 rfl _ _ _,(t.putObj _ _ (O oa)),Q ⟨_,rfl,ownsRow_putObj a _ m rfl⟩⟩
end
