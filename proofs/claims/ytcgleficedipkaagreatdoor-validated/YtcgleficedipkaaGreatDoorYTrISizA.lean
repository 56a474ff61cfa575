/- The assertions of the reader's trees, and of the programs made of them. -/
import Derived.Test.YtcgleficedipkaaGreatDoorYSemESemI
namespace Go.Proofs.YtcgleficedipkaaGreatDoor
open Option renaming none->U,some->I
open Value renaming int->M,slice->K,bool->C,pointer->Ua,iface->Ud,tuple->Ue,agg->Uf,nilIface->Ui
open IntKind renaming i64->J,i32->Ug
open Bool renaming false->Z,true->G
open _root_.Go.Proofs.Tryz renaming prog->V
open Go renaming World->E,Value->Y,Calls->Uh
open Go.RowKit renaming Hid->H
open Or renaming inr->O,inl->Q
open Ending renaming returned->R
open Obj renaming cells->Ub
open Go.Instr renaming typeAssert->Uk
open Pro Sm
open _root_.Go.Proofs.Tryz
variable (b:Nat)(v:Value){k base:Nat}(w:World)(L:List (Int×Int))(f n:Nat){x:Ending}{c:Int}{T:TypeId}{q:Value}{xs:List Value}
section
open Sm (Tree Stp)
namespace Pro
def jP:Nat->Tree->Prop
 |0,_=>True
 |f+1,T=>(T.kind=0->0<=T.a/\T.a<=3)/\∀t∈T.kids,jP f t
section
variable {L:List (Int×Int)} {T:Int}
theorem Xx {T:Tree}(b:T.kind≠0)(c:T.kids=[]):∀f,jP f T
 |0=>trivial
 |f+1=>⟨λe=>absurd e b,λt a=>by rw[c] at a;cases a⟩
theorem zaC {T:Tree}(a:T.kind≠0)(h:∀t∈T.kids,∀f,jP f t):∀f,jP f T
 |0=>trivial
 |f+1=>⟨λe=>absurd e a,λt b=>h t b f⟩
theorem as_asr (n:Nat):∀f,jP f (wO (asV L n))
 |0=>trivial
 |f+1=>⟨λ_=>by
   show 0<=asV L n/\asV L n<=3;unfold asV;split;omega;split;omega;split<;>omega,λt a=>by simp[wO] at a⟩
theorem zcu {DT:Nat->Tree}(a:∀n f,jP f (DT n))(n f:Nat):jP f (xi L T DT n):=by unfold xi;split;exact a n f;split;exact Xx (by simp[xP,vG]) rfl f;split;unfold oneT;split;exact Xx (by simp[qJ]) rfl f;exact Xx (by simp[ji]) rfl f;split;exact Xx (by simp[wP]) rfl f;exact Xx (by simp[ji]) rfl f
theorem termT_as {D:Nat->Out}{DT:Nat->Tree}(a:∀n f,jP f (DT n))(n f:Nat):jP f (ja L T D DT n):=by unfold ja;split;exact as_asr n f;split;exact zcu a n f;refine zaC (by simp[vH]) (λt b f=>?_) f;obtain rfl:t=xi L T DT n:=(by simpa [vH] using b);exact zcu a n f
theorem WA {D:Nat->Out}{DT:Nat->Tree}(c:∀n f,jP f (DT n)):∀(g:Nat) (b:List Tree) (n:Nat),(∀t∈b,∀f,jP f t)->∀t∈ju L T D DT g b n,∀f,jP f t
 |0,_,_,h=>h
 |g+1,b,n,h=>by
  unfold ju;split;exact h;refine WA c g _ _ (λt a=>?_);rcases zgU.1 a with a|a;exact h t a;obtain rfl:=zgT.1 a;exact λf=>termT_as c n f
theorem zgk {D:Nat->Out}{DT:Nat->Tree}(a:∀n f,jP f (DT n))(n f:Nat):jP f (xX L T D DT n):=
 zaC (by simp[xX,ZH]) (WA a _ [] n ov) f
theorem zeU {D:Nat->Out}{DT:Nat->Tree}(d:∀n f,jP f (DT n)):∀(g:Nat) (b:List Tree) (n:Nat),(∀t∈b,∀f,jP f t)->∀t∈altT L T D DT g b n,∀f,jP f t
 |0,_,_,h=>h
 |g+1,b,n,h=>by
  have c:∀t∈b++[xX L T D DT n],∀f,jP f t:=λt a=>by rcases zgU.1 a with a|a;exact h t a;obtain rfl:=zgT.1 a;exact λf=>zgk d n f
  unfold altT;split;exact zeU d g _ _ c;exact c
theorem zeV {D:Nat->Out}{DT:Nat->Tree}(a:∀n f,jP f (DT n))(n f:Nat):jP f (wG L T D DT n):=
 zaC (by simp[wG,tAlt]) (zeU a _ [] n ov) f
theorem zcv:∀(r n f:Nat),jP f (qC L T r n)
 |0,_,f=>Xx (by simp[qC,wP]) rfl f
 |r+1,_,f=>zeV (λn f=>zcv r n f) _ f
theorem jP.down:∀{f:Nat} {T:Tree},jP (f+1) T->jP f T
 |0,_,_=>trivial
 |_+1,_,h=>⟨h.1,λt a=>jP.down (h.2 t a)⟩
theorem jP.kid {f:Nat}{T:Tree}(h:jP (f+1) T):jP f T.kid:=by unfold Sm.Tree.kid;split;exact h.down;rename_i t a e;exact h.2 t (by rw[e];exact zgQ ..)
end
end Pro
namespace Sm
variable {P:Stp->Prop} {B:Tree->Nat->List Stp->Nat×List Stp}
def AllS (P:Stp->Prop)(S:List Stp):Prop:=∀s∈S,P s
def Y7 (P:Stp->Prop)(B:Tree->Nat->List Stp->Nat×List Stp)(t:Tree):Prop:=∀r S,AllS P S->AllS P (B t r S).2
theorem AllS.snoc {S:List Stp}{s:Stp}(h:AllS P S)(b:P s):AllS P (S++[s]):=λx a=>by
 rcases zgU.1 a with a|a;exact h x a
 grind
theorem XL (d:∀x y,P (zA x y)){r:Nat}:∀(a:List Tree) (b:Nat) (S:List Stp),(∀t∈a,Y7 P B t)->AllS P S->AllS P (xg B r a b S).2
 | [],_,_,_,c=>c
 |t :: a,_,S,h,c=>XL d a _ _ (λy e=>h y (zgR _ e)) ((h t (zgQ ..) r S c).snoc (d _ _))
theorem Vl:∀(a:List Tree) (b:Nat) (S:List Stp),(∀t∈a,Y7 P B t)->AllS P S->AllS P (wJ B a b S).2
 | [],_,_,_,c=>c
 |t :: a,b,S,h,c=>Vl a _ _ (λy d=>h y (zgR _ d)) (h t (zgQ ..) b S c)
theorem Vm (c:∀x y,P (zA x y)){t:Tree}{r:Nat}(h:Y7 P B t):∀(k b:Nat) (S:List Stp),AllS P S->AllS P (vt B t r k b S).2
 |0,_,_,a=>a
 |k+1,b,S,a=>Vm c h k _ _ ((h b S a).snoc (c _ _))
theorem Yh {t:Tree}(h:Y7 P B t):∀(k b:Nat) (S:List Stp),AllS P S->AllS P (yM B t k b S).2
 |0,_,_,a=>a
 |k+1,b,S,a=>by
  simp only[yM];split;exact h b S a;exact Yh h k _ _ (h b S a)
theorem JN (b:∀x y,P (zA x y)){t:Tree}{r:Nat}(h:Y7 P B t)(S:List Stp)(c:AllS P S):AllS P (xR B t r S).2:=λx a=>by rcases zim a with a|rfl;exact h _ _ (c.snoc (b _ _)) x a;exact b _ _
theorem Jp (c:∀x y,P (zA x y))(g:∀T r,P (taker T r))(d:∀a r,0<=a->a<=3->P (tester a r)):∀(f:Nat) (T:Tree),jP f T->Y7 P (bld f) T
 |0,_,_=>λ_ _ b=>b
 |f+1,T,h=>by
  intro r S b;have kids:∀t∈T.kids,Y7 P (bld f) t:=λt k=>Jp c g d f t (h.2 t k);have kid:Y7 P (bld f) T.kid:=Jp c g d f T.kid h.kid;unfold bld;split;rename_i j;exact b.snoc (d _ _ (h.1 j).1 (h.1 j).2);split;split;exact b;rename_i t l e;rw[e] at kids;exact XL c l _ _ (λy i=>kids y (zgR _ i)) (kids t (zgQ ..) r S b);split;exact Vl _ _ _ (λy i=>kids y (List.mem_reverse.1 i)) b;split;split;split;exact JN c kid S b;exact Yh kid _ _ _ (JN c kid S b);exact Yh kid _ _ _ (Vm c kid _ _ _ b);exact b.snoc (g _ _)
theorem prg_asks {f:Nat}{T:Tree}(h:jP f T):∀s∈(prg f T).2,s.kind=2->0<=s.asr/\s.asr<=3:=
 Jp (P:=λs=>s.kind=2->0<=s.asr/\s.asr<=3) (λ_ _ e=>by simp[zA] at e) (λ_ _ e=>by simp[taker] at e) (λ_ _ a b _=>⟨a,b⟩) f T h 0 [j8] (λs c e=>by obtain rfl:=zgT.1 c;simp[j8] at e)
end Sm
end
section
open Go.RowKit
open Sm (Tree)
set_option maxHeartbeats 4000000
set_option maxRecDepth 1000000
theorem zcw (T s:Int)(a:Nat->Addr)(w:E)(h:yh w b L n T s)(hS:yt w a)(hb:11<=b)(q:L.length<=400)(hn:n<L.length)(hF:Pro.Fit L):Uh V 222 #[Ua (I ⟨b,0,U⟩)] w λx w'=>∃cv,xE b L T s a w (qy L T n) (Ud 252 cv) Ui x w'/\((qy L T n).k=0->kF w' (λg=>w.heap.size<=g) (Ud 252 cv) (xP L T n)):=by
 have c:=ze (Trk.start h hS hb);have c1:=h.c1;have f1:=h.f1;clear h hS;have af:(Pro.behind L (n+1) { data:=#[94] }=n+1/\zj L (n+1)≠94)\/(Pro.behind L (n+1) { data:=#[94] }=n+2/\zj L (n+1)=94):=by by_cases ai:zj L (n+1)=94;right;exact⟨XS (by rw[zH L (n+1) 94 94 rfl];simp[ai]),ai⟩;left;exact⟨Ja (by rw[zH L (n+1) 94 94 rfl];simp[ai]),ai⟩
 have hN:n+1<=Pro.behind L (n+1) { data:=#[94] }/\Pro.behind L (n+1) { data:=#[94] }<=L.length:=by rcases af with⟨e,_⟩|⟨e,o⟩;omega;have:n+1<L.length:=zJ oa;omega
 have HP:H (qy L T n=qS L T (L.length+1-n) (Pro.behind L (n+1) { data:=#[94] })):=by unfold qy;rcases af with⟨e,o⟩|⟨e,o⟩;rw[e,iN o];rfl;rw[e,IN o];rfl
 have HT:H (xP L T n=vG (zE L (n+1) { data:=#[94] }) (qK L T (L.length+1-n) (Pro.behind L (n+1) { data:=#[94] }) [] []).1 (qK L T (L.length+1-n) (Pro.behind L (n+1) { data:=#[94] }) [] []).2):=by unfold xP;rcases af with⟨e,o⟩|⟨e,o⟩;rw[e,iN o,zH L (n+1) 94 94 rfl];simp[o,H];rw[e,IN o,zH L (n+1) 94 94 rfl];simp[o,H]
 clear af;go_enter func222,ntmps222;go_wp2_with(go_at_call 113;refine(taken_t (n:=n+1) _ (by exact c.setN _ _ oa) q oa od).mono ?_;rintro e d ⟨rfl,i⟩;have c:=ze i;have c1:=i.c1;have f1:=i.f1);generalize aR:Pro.behind L (n+1) { data:=#[94] }=N0 at *;generalize zE L (n+1) { data:=#[94] }=neg at *;have T1:=ze c;clear c1 f1;have an:w.heap.size<=d.heap.size:=T1.on.size;have aq:yW (d.alloc (Ub #[C neg,K U 0 0,K U 0 0] 252)) d.heap.size neg [] [] (K U 0 0) (K U 0 0):=
  ⟨zm d _ rfl _ _ 0 _ rfl,zm d _ rfl _ _ 1 _ rfl,zm d _ rfl _ _ 2 _ rfl,zgP _ _ _ _,zgP _ _ _ _,zu d _ rfl _ _ 1,zu d _ rfl _ _ 2⟩
 have T2:Trk d.heap.size (d.alloc (Ub #[C neg,K U 0 0,K U 0 0] 252)) b L N0 T s a (d.alloc (Ub #[C neg,K U 0 0,K U 0 0] 252)):=
  have t:=T1.calm ((zf.refl _ _).alloc _)
  ⟨t.rd,t.se,zf.refl _ _,t.hb,T1.rd.lt,ov⟩
 generalize hW:d.alloc (Ub #[C neg,K U 0 0,K U 0 0] 252)=W at *;have aw:zf (zt b) w W:=by rw[<-hW];exact(Own.to T1.on).alloc _
 have y:=ze aw;have T2:=ze T2;have aB:=ze aq;clear aq hW aw;generalize aI:d.heap.size=cb at *;clear aI;go_loopw[5] (λ_ wr=>∃(m f:Nat) (j:List (Int×Int)) (S:List Int) (P X:Y),m<=L.length/\j.length<=m/\S.length<=m/\H (L.length<m+f)/\H (Trk cb W b L m T s a wr)/\H (yW wr cb neg j S P X)/\H (qy L T n=qS L T f m)/\H (xP L T n=vG neg (qK L T f m j S).1 (qK L T f m j S).2)) (λ_ wr=>L.length-rdN wr b);exact⟨N0,L.length+1-n,[],[],_,_,hN.2,ov,ov,(by show _<_;omega),T2,aB,HP,HT⟩;obtain⟨m,f,j,S,P,X,hm,hR,hS,hf,c,r,HF,HT⟩:=hrel;obtain⟨f,rfl⟩:∃f',f=f'+1:=⟨f-1,by have:=zb hf;omega⟩
 have aN:=c.rdN;by_cases l:zj L m=93
 .have m1:zE L m { data:=#[93] }=G:=(by rw[zH L m 93 93 rfl];simp[l]);have p:H (qy L T n=good 1 (m+1)):=(by rw[zb HF];simp only[qS];rw[IN l];rfl);have ak:H (xP L T n=vG neg j S):=(by rw[zb HT];simp only[qK];rw[IN l];rfl);clear l;have T0:=c;have c:=ze (Trk.start T0.rd T0.se hb);have aH:=T0.lt;go_wp2_with((go_at_call 113;refine(vF (n:=m) _ (by exact c) q oa od ox).mono ?_;rintro e d ⟨rfl,i⟩;have i:Trk _ _ b L ((m)+1) T s a d:=i;have c:=ze i;have c1:=i.c1;have f1:=i.f1);(have F:=r.step aH c);(have k0:=F.k0);(have k1:=F.k1);(have k2:=F.k2);(have aC:=ze F);(clear F));go_ret2;refine⟨_,jU p rfl (Own.back y (T0.join c).on an) c.rd,λ_=>?_⟩;rw[zb ak];have au:=zb aC;exact O (O (O (O ⟨neg,j,S,P,X,rfl,rfl,(zck au.o1 (λe=>by rw[zgY e];rfl)).mono (λg _ hg=>oa),(zck au.o2 (λe=>by rw[zgY e];rfl)).mono (λg _ hg=>oa)⟩)))
 have m1:zE L m { data:=#[93] }=Z:=(by rw[zH L m 93 93 rfl];simp[l]);by_cases ag:L.length<=m
 .have aW:m=L.length:=oa;have he:((m:Int) == (L.length:Int))=G:=ou;have p:H (qy L T n=Pro.bad 3 (zC L T m) m):=(by rw[zb HF];simp only[qS];rw[iN l,IN ag,wU ag];rfl);clear l;go_wp2_with(first|(go_at_call 113;refine(xF (n:=m) _ (by exact c) q oa od ox).mono ?_;rintro e d ⟨rfl,N,rfl⟩)|(go_at_call 63;refine(Xj (n:=m) (by exact c.drewN _)).mono ?_;rintro e d ⟨rfl,N,rfl⟩)|(go_at_call 64;refine(QB (n:=m) (by exact c.drewN _) q oa).mono ?_;rintro e d ⟨v,rfl,hv,i⟩;have c:=ze i;have c1:=i.c1;have f1:=i.f1));go_ret2;exact⟨Ui,vy p od (Own.back y c.on an) c.rd (hv.base y.size),λe=>by rw[zb p] at e;exact absurd e (show(3:Nat)≠0 by decide)⟩
 have he:((m:Int) == (L.length:Int))=Z:=ou;have ah:m<L.length:=oa;have aM:=zer (L:=L) (T:=T) m ah;have aX:=jQ (L:=L) (T:=T) m ah;by_cases u:(qD L T m).k=0
 .have p:H (qy L T n=qS L T f (qD L T m).n):=(by rw[zb HF];simp only[qS];rw[iN l,iN ag,iN (by simp[u])];rfl);have ak:H (xP L T n=vG neg (qK L T f (qD L T m).n (Zl L T m j) (Zm L T m S)).1 (qK L T f (qD L T m).n (Zl L T m j) (Zm L T m S)).2):=(by rw[zb HT];simp only[qK];rw[iN l];rfl);clear l;go_wp2_with(first|(go_at_call 113;refine(xF (n:=m) _ (by exact c) q oa od ox).mono ?_;rintro e d ⟨rfl,N,rfl⟩)|(go_at_call 63;refine(Xj (n:=m) (by exact c.drewN _)).mono ?_;rintro e d ⟨rfl,N,rfl⟩)|(go_at_call 252;refine(XH b L m T s a cb W _ neg j S P X (by exact c.drewN _) (by first|exact r|exact r.keep ((zf.refl (λ_=>False) _).drewN _) (λ_ _ f=>f)|exact r.keep (((zf.refl (λ_=>False) _).drewN _).drewN _) (λ_ _ f=>f)) q ah oa hF oa oa).mono ?_;rintro e w9 ⟨i,B⟩;obtain⟨rfl,u1,u2,ar⟩:=YP B u;have z:=ze i;have aD:=ze ar;clear B ar));have aT:=addR_len (L:=L) (T:=T) m j;have aU:=addS_len (L:=L) (T:=T) m S;exact⟨⟨(qD L T m).n,f,_,_,u1,u2,aM.2,oa,oa,(by have:=zb hf;show _<_;omega),z,aD,p,ak⟩,by rw[(zb z).rdN,aN];omega⟩
 have p:H (qy L T n=qD L T m):=(by rw[zb HF];simp only[qS];rw[iN l,iN ag,IN u];rfl);clear l;go_wp2_with(first|(go_at_call 113;refine(xF (n:=m) _ (by exact c) q oa od ox).mono ?_;rintro e d ⟨rfl,N,rfl⟩)|(go_at_call 63;refine(Xj (n:=m) (by exact c.drewN _)).mono ?_;rintro e d ⟨rfl,N,rfl⟩)|(go_at_call 252;refine(XH b L m T s a cb W _ neg j S P X (by exact c.drewN _) (by first|exact r|exact r.keep ((zf.refl (λ_=>False) _).drewN _) (λ_ _ f=>f)|exact r.keep (((zf.refl (λ_=>False) _).drewN _).drewN _) (λ_ _ f=>f)) q ah oa hF oa oa).mono ?_;rintro e w9 ⟨i,B⟩;obtain⟨xv,rfl,hv⟩:=zai B u;obtain⟨gv,aL⟩:=hv.form;subst aL;have z:=ze i;clear B));go_ret2;rw[zb p];exact⟨Ui,xE.no u (Own.back y z.on an) z.rd (hv.base y.size),λe=>absurd e u⟩
theorem wH (T m:Int)(a:Nat->Addr)(w:E)(h:yh w b L n T m)(r:yt w a)(t:11<=b)(i:L.length<=400)(B:n<=L.length):Uh V 186 #[Ua (I ⟨b,0,U⟩)] w λx s=>zf (zt b) w s/\yh s b L (n+asN L n) T m/\((asN L n≠0/\x=R (Ue #[M J (asV L n),C G]))\/(asN L n=0/\x=R (Ue #[M J 0,C Z]))):=by
 have c:=ze (Trk.start h r t);clear h r;by_cases k:zj L n=94
 .have g:H (asN L n=1):=by unfold asN;rw[IN (Q k)];rfl
  have j:H (asV L n=0):=by unfold asV;rw[IN k];rfl
  have u:zE L n { data:=#[94] }=G:=by rw[zH L n 94 94 rfl];simp[k]
  go_enter func186,ntmps186;go_wp2_with(first|(go_at_call 113;refine(vF (n:=n) _ (by exact c) i oa od ox).mono ?_;rintro e f ⟨rfl,d⟩;have d:Trk _ _ b L ((n)+1) T m a f:=d;have c:=ze d;have c1:=d.c1;have f1:=d.f1));go_ret2;rw[zb g,zb j];exact⟨Own.to c.on,c.rd,Q ⟨od,rfl⟩⟩
 have u:zE L n { data:=#[94] }=Z:=by rw[zH L n 94 94 rfl];simp[k]
 by_cases o:zj L n=36
 .have g:H (asN L n=1):=(by unfold asN;rw[IN (O o)];rfl);have j:H (asV L n=1):=(by unfold asV;rw[iN k,IN o];rfl);have v:zE L n { data:=#[36] }=G:=(by rw[zH L n 36 36 rfl];simp[o]);go_enter func186,ntmps186;go_wp2_with(first|(go_at_call 113;refine(xF (n:=n) _ (by first|exact c|exact c.drewN _) i oa od ox).mono ?_;rintro e f ⟨rfl,q,rfl⟩)|(go_at_call 113;refine(vF (n:=n) _ (by exact c.drewN _) i oa od ox).mono ?_;rintro e f ⟨rfl,d⟩;have d:Trk _ _ b L ((n)+1) T m a f:=d;have c:=ze d;have c1:=d.c1;have f1:=d.f1));go_ret2;rw[zb g,zb j];exact⟨Own.to c.on,c.rd,Q ⟨od,rfl⟩⟩
 have v:zE L n { data:=#[36] }=Z:=(by rw[zH L n 36 36 rfl];simp[o]);by_cases l:zj L n=92/\zj L (n+1)=98
 .have g:H (asN L n=2):=(by unfold asN;rw[iN oa,IN ⟨l.1,Q l.2⟩];rfl);have j:H (asV L n=2):=(by unfold asV;rw[iN k,iN o,IN l.2];rfl);have y:zE L n { data:=#[92,98] }=G:=(by rw[xh L n 92 98 92 98 rfl rfl];simp[l]);clear l;go_enter func186,ntmps186;go_wp2_with(first|(go_at_call 113;refine(xF (n:=n) _ (by first|exact c|exact c.drewN _) i oa od ox).mono ?_;rintro e f ⟨rfl,q,rfl⟩)|(go_at_call 113;refine(vF (n:=n) _ (by exact c.drewN _) i oa od ox).mono ?_;rintro e f ⟨rfl,d⟩;have d:Trk _ _ b L ((n)+2) T m a f:=d;have c:=ze d;have c1:=d.c1;have f1:=d.f1));go_ret2;rw[zb g,zb j];exact⟨Own.to c.on,c.rd,Q ⟨od,rfl⟩⟩
 have y:zE L n { data:=#[92,98] }=Z:=(by rw[xh L n 92 98 92 98 rfl rfl];simp;omega);by_cases p:zj L n=92/\zj L (n+1)=66
 .have g:H (asN L n=2):=(by unfold asN;rw[iN oa,IN ⟨p.1,O p.2⟩];rfl);have j:H (asV L n=3):=(by unfold asV;rw[iN k,iN o,iN oa];rfl);have z:zE L n { data:=#[92,66] }=G:=(by rw[xh L n 92 66 92 66 rfl rfl];simp[p]);clear l p;go_enter func186,ntmps186;go_wp2_with(first|(go_at_call 113;refine(xF (n:=n) _ (by first|exact c|exact c.drewN _) i oa od ox).mono ?_;rintro e f ⟨rfl,q,rfl⟩)|(go_at_call 113;refine(vF (n:=n) _ (by exact c.drewN _) i oa od ox).mono ?_;rintro e f ⟨rfl,d⟩;have d:Trk _ _ b L ((n)+2) T m a f:=d;have c:=ze d;have c1:=d.c1;have f1:=d.f1));go_ret2;rw[zb g,zb j];exact⟨Own.to c.on,c.rd,Q ⟨od,rfl⟩⟩
 have z:zE L n { data:=#[92,66] }=Z:=(by rw[xh L n 92 66 92 66 rfl rfl];simp;omega);have g:H (asN L n=0):=(by unfold asN;rw[iN oa,iN oa];rfl);clear l p;go_enter func186,ntmps186;go_wp2_with(first|(go_at_call 113;refine(xF (n:=n) _ (by first|exact c|exact c.drewN _) i oa od ox).mono ?_;rintro e f ⟨rfl,q,rfl⟩));go_ret2;rw[zb g];exact⟨Own.to (c.drewN _).on,(c.drewN _).rd,O ⟨rfl,rfl⟩⟩
def wI (b:Nat)(L:List (Int×Int))(T c:Int)(a:Nat->Addr)(D:Nat->Pro.Out)(DT:Nat->Tree):Prop:=∀(n:Nat) (w:E),yh w b L n T c->yt w a->n<L.length->Uh V 221 #[Ua (I ⟨b,0,U⟩)] w (xd b L T c a w (D n) (DT n))
theorem one_leaf (m:Bool)(c:Int):∃T y,oneV m c=Ud T y/\∀w A,kF w A (Ud T y) (oneT m c):=by cases m;exact⟨_,_,rfl,λw A=>O (O (Q ⟨_,rfl,rfl⟩))⟩;exact⟨_,_,rfl,λw A=>O (O (O (Q ⟨_,rfl,rfl⟩)))⟩
theorem Vn (T q:Int)(a:Nat->Addr)(D:Nat->Pro.Out)(DT:Nat->Tree)(w:E)(h:yh w b L n T q)(t:yt w a)(u:11<=b)(k:L.length<=400)(y:n<L.length)(F:Pro.Fit L)(N:wI b L T q a D DT):Uh V 187 #[Ua (I ⟨b,0,U⟩)] w (xd b L T q a w (zM L T D n) (xi L T DT n)):=by
 have c:=ze (Trk.start h t u);have m:=ze h;have s:=ze t;have c1:=h.c1;have f1:=h.f1;have HG:=ze N;clear h t N;cases hw:Ye (zj L n)
 .have z:(zj L n == 42)=Z/\(zj L n == 43)=Z/\(zj L n == 63)=Z/\(zj L n == 123)=Z/\(zj L n == 125)=Z/\(zj L n == 93)=Z:=by unfold Ye at hw;simpa [and_assoc] using hw
  obtain⟨X,q2,q3,q4,q5,q6⟩:=z;by_cases d:zj L n=40
  .have i:H (zM L T D n=D n):=(by unfold zM;rw[iN (by simp[hw]),IN d];rfl);have o:H (xi L T DT n=DT n):=(by unfold xi;rw[IN d];rfl);have aj:(zj L n == 40)=G:=(by simp[d]);clear d hw;go_enter func187,ntmps187;go_wp2_with(first|(go_at_call 157;refine ziD (y8 (n:=n) (by exact c) k oa) ?_)|(go_at_call 221;refine(zb HG n _ m s y).mono ?_;intro e w1 g;obtain⟨S,W,rfl⟩:=g.pair;have p:=ze g;clear g));go_ret2;rw[zb i,zb o];exact p
  have aj:(zj L n == 40)=Z:=(by simp[d]);by_cases f:zj L n=91
  .have i:H (zM L T D n=Pro.one (qy L T n)):=(by unfold zM;rw[iN (by simp[hw]),iN d,IN f];rfl);have o:H (xi L T DT n=xP L T n):=(by unfold xi;rw[iN d,IN f];rfl);have ak:(zj L n == 91)=G:=(by simp[f]);clear f hw d;go_enter func187,ntmps187;go_wp2_with(first|(go_at_call 157;refine ziD (y8 (n:=n) (by exact c) k oa) ?_)|(go_at_call 222;refine(zcw b L n T q a _ m s u k y F).mono ?_;rintro e w1 ⟨cv,l,r⟩;have g:=l.givesT r;obtain⟨S,W,rfl⟩:=g.pair;have p:=ze g;clear g l r));go_ret2;rw[zb i,zb o];exact p
  have ak:(zj L n == 91)=Z:=(by simp[f]);by_cases j:zj L n=92
  .have i:H (zM L T D n=Pro.one (xO L T n)):=(by unfold zM;rw[iN (by simp[hw]),iN d,iN f,IN j];rfl);have o:H (xi L T DT n=oneT (jj (zj L (n+1))) (xO L T n).v):=(by unfold xi;rw[iN d,iN f,IN j];rfl);have al:(zj L n == 92)=G:=(by simp[j]);clear f hw d j;obtain⟨TT,yy,P,r⟩:=one_leaf (jj (zj L (n+1))) (xO L T n).v;have Hy:=ze P;have ah:=ze r;clear P r;go_enter func187,ntmps187;go_wp2_with(first|(go_at_call 157;refine ziD (y8 (n:=n) (by exact c) k oa) ?_)|(go_at_call 223;refine(YN b L n T q a _ m s u k y F).mono ?_;intro e w1 l;rw[zb Hy] at l;have g:=l.givesT (λ_=>zb ah _ _);obtain⟨S,W,rfl⟩:=g.pair;have p:=ze g;clear g l));go_ret2;rw[zb i,zb o];exact p
  have al:(zj L n == 92)=Z:=(by simp[j]);have i:H (zM L T D n=good 1 (n+1)):=(by unfold zM;rw[iN (by simp[hw]),iN d,iN f,iN j];rfl);have af:H (zj L n=46->xi L T DT n=wP):=λe=>(by unfold xi;rw[iN d,iN f,iN j,IN e]);have ag:H (zj L n≠46->xi L T DT n=ji (zj L n)):=λe=>(by unfold xi;rw[iN d,iN f,iN j,iN e]);clear f hw d j;have am:(zj L n == 46)=G\/(zj L n == 46)=Z:=(by cases(zj L n == 46)<;>simp);rcases am with x|x
  .go_enter func187,ntmps187;go_wp2_with(first|(go_at_call 157;refine ziD (y8 (n:=n) (by exact c) k oa) ?_));go_ret2;rw[zb af (by simpa using x)];exact xd.good i ((zf.refl _ _).mine _ _) (m.setN _ _ oa) (zG.leaf (O (Q ⟨rfl,rfl⟩)))
  go_enter func187,ntmps187;go_wp2_with(first|(go_at_call 157;refine ziD (y8 (n:=n) (by exact c) k oa) ?_));go_ret2;rw[zb ag (by simpa using x)];exact xd.good i ((zf.refl _ _).mine _ _) (m.setN _ _ oa) (zG.leaf (O (O (Q ⟨_,rfl,rfl⟩))))
 have i:H (zM L T D n=Pro.bad 3 (zC L T n) n):=by unfold zM;rw[IN hw];rfl
 have z:(zj L n == 42)=G\/(zj L n == 42)=Z/\((zj L n == 43)=G\/(zj L n == 43)=Z/\((zj L n == 63)=G\/(zj L n == 63)=Z/\((zj L n == 123)=G\/(zj L n == 123)=Z/\((zj L n == 125)=G\/(zj L n == 125)=Z/\(zj L n == 93)=G)))):=by unfold Ye at hw;cases hq1:(zj L n == 42)<;>cases hq2:(zj L n == 43)<;>cases hq3:(zj L n == 63)<;>cases hq4:(zj L n == 123)<;>cases hq5:(zj L n == 125)<;>cases hq6:(zj L n == 93)<;>simp_all
 clear hw;rcases z with X|⟨X,q2|⟨q2,q3|⟨q3,q4|⟨q4,q5|⟨q5,q6⟩⟩⟩⟩⟩
 all_goals
  go_enter func187,ntmps187;go_wp2_with(first|(go_at_call 157;refine ziD (y8 (n:=n) (by exact c) k oa) ?_)|(go_at_call 64;refine(QB (n:=n) (by exact c) k oa).mono ?_;rintro e wq ⟨v,rfl,hv,B⟩;have c:=ze B;have c1:=B.c1;have f1:=B.f1));go_ret2;exact xd.bad i od (Own.to c.on) c.rd hv
variable {b L}
theorem Quants.givesT {T q:Int}{a:Nat->Addr}{w w1 s:E}{c:TypeId}{y:Y}{z t:Tree}{F n:Nat}{x:Ending}{o:Pro.Out}(aa:b<w.heap.size)(m:zf (zt b) w w1)(hs:zG F w1 (λg=>w.heap.size<=g) (Ud c y) z)(h:Quants b L T q a w1 (Ud c y) (zy L T n) x s)(P:(zy L T n).1=Z->o.k=0/\t=z/\o.n=(zy L T n).2.1.n) (S:(zy L T n).1=G->(zy L T n).2.1.k≠0->o=(zy L T n).2.1)(W:(zy L T n).1=G->(zy L T n).2.1.k=0->(∃v,o=good v (wX L (zy L T n).2.1.n))/\t=vH z (zy L T n).2.1.v (zy L T n).2.2):xd b L T q a w o t x s:=by obtain⟨p,h⟩:=h;have r:=zG.keep p (A:=λg=>w.heap.size<=g) (λg X e=>by unfold zt at e;subst e;exact absurd aa (Nat.not_lt.2 X)) F _ _ hs;rcases h with⟨f,l,i⟩|⟨f,j,l,i⟩|⟨f,j,i,v,l,d⟩;obtain⟨u,B,N⟩:=P f;exact⟨m.trans p,by rw[N];exact i,Q ⟨u,c,y,F,l,by rw[B];exact r⟩⟩;subst l;obtain⟨⟨vv,ho⟩,ht⟩:=W f j;rw[ht];refine xd.good (F:=F+1) ho (m.trans p) i ?_;have d:=Vf (L:=L) (T:=T) n f j;exact O (O (O ⟨_,_,_,z,rfl,rfl,r,d.1,d.2.1,d.2.2.1,d.2.2.2.1,d.2.2.2.2⟩));rw[S f j];exact⟨m.trans p,i,O ⟨j,v,l,d.base m.size⟩⟩
theorem Quants.pairT {T c:Int}{a:Nat->Addr}{w d:E}{p:Y}{o:Bool×Pro.Out×Int}{x:Ending}(h:Quants b L T c a w p o x d):∃p q,x=R (Ue #[p,q]):=by obtain⟨_,⟨_,h,_⟩|⟨_,_,h,_⟩|⟨_,_,_,v,h,_⟩⟩:=h;exact⟨_,_,h⟩;exact⟨_,_,h⟩;exact⟨_,_,h⟩
theorem as_noT (h:(k≠0/\x=R (Ue #[M J c,C G]))\/(k=0/\x=R (Ue #[M J 0,C Z])))(a:k=0):True/\x=R (Ue #[M J 0,C Z]):=by grind
theorem as_yesT (h:(k≠0/\x=R (Ue #[M J c,C G]))\/(k=0/\x=R (Ue #[M J 0,C Z])))(a:k≠0):True/\x=R (Ue #[M J c,C G]):=by grind
variable (b L)
theorem WB (T g:Int)(a:Nat->Addr)(D:Nat->Pro.Out)(DT:Nat->Tree)(w:E)(h:yh w b L n T g)(hS:yt w a)(i:11<=b)(o:L.length<=400)(P:n<L.length)(F:Pro.Fit L)(hG:wI b L T g a D DT)(X:DOK L D):Uh V 158 #[Ua (I ⟨b,0,U⟩)] w (xd b L T g a w (yL L T D n) (ja L T D DT n)):=by
 have am:=h.lt;have y:=ze h;have m:=ze hS;have HG:=ze hG;have HD:=ze X;clear h hS hG X;by_cases c:asN L n=0
 .have ac:=Ve (T:=T) HD n P;by_cases l:(zM L T D n).k=0
  .go_enter func158,ntmps158;go_wp2_with(first
    |(go_at_call 186;refine(wH b L n T g a _ y m i o oa).mono ?_;rintro e w1 ⟨d,f,j⟩;rw[c] at f;obtain⟨_,rfl⟩:=as_noT j c;clear j;have r:=ze f;have B:=ze (m.mine d i);have q:=ze d;clear f d)
    |(go_at_call 187;refine(Vn b L n T g a D DT _ r B i o P F HG).mono ?_;intro e w2 t;obtain⟨T2,y2,F2,rfl,ad,p,s⟩:=jv (t.after q) l;have aj:=ze ad;have x:=ze p;have z:=ze s;have ah:=ze (m.mine p i);clear t ad p s)
    |(go_at_call 188;refine(KV b L (zM L T D n).n T g a _ T2 y2 z ah i o ac.2.1 F).mono ?_;intro e w3 S;obtain⟨p1,p2,rfl⟩:=S.pairT;have Hq:=ze S;clear S))
   go_ret2;refine Hq.givesT am x aj ?_ ?_ ?_;intro W;have an:=(Wp (L:=L) (T:=T) (zM L T D n).n ac.2.1).2.2 W;unfold yL;rw[iN (by simp[c]),iN (by simp[l]),IN W,an];refine⟨l,?_,rfl⟩;unfold ja;rw[iN (by simp[c]),IN W];intro u N;unfold yL;rw[iN (by simp[c]),iN (by simp[l]),iN (by simp[u]),IN N];intro u N;unfold yL;rw[iN (by simp[c]),iN (by simp[l]),iN (by simp[u]),iN (by simp[N])];refine⟨⟨_,rfl⟩,?_⟩;unfold ja;rw[iN (by simp[c]),iN (by simp[u])]
  have v:H (yL L T D n=zM L T D n):=(by unfold yL;rw[iN (by simp[c]),IN l];rfl);go_enter func158,ntmps158;go_wp2_with(first
   |(go_at_call 186;refine(wH b L n T g a _ y m i o oa).mono ?_;rintro e w1 ⟨d,f,j⟩;rw[c] at f;obtain⟨_,rfl⟩:=as_noT j c;clear j;have r:=ze f;have B:=ze (m.mine d i);have q:=ze d;clear f d)
   |(go_at_call 187;refine(Vn b L n T g a D DT _ r B i o P F HG).mono ?_;intro e w2 t;obtain⟨g2,rfl,ae,p,s⟩:=Xu (t.after q) l;have ak:=ze ae;have x:=ze p;have z:=ze s;clear t ae p s))
  go_ret2;rw[zb v];exact⟨x,z,O ⟨l,_,rfl,ak⟩⟩
 have v:H (yL L T D n=good 1 (n+asN L n)):=by unfold yL;rw[IN c];rfl
 go_enter func158,ntmps158;go_wp2_with(go_at_call 186;refine(wH b L n T g a _ y m i o oa).mono ?_;rintro e w1 ⟨d,f,j⟩;obtain⟨_,rfl⟩:=as_yesT j c;clear j;have r:=ze f;have q:=ze d;clear f d);go_ret2;have ht:ja L T D DT n=wO (asV L n):=by unfold ja;rw[IN c]
 rw[ht];exact xd.good v q r (zG.leaf (Q ⟨_,rfl,rfl⟩))
def Yi (base:Nat)(q:Y)(g:Nat):Prop:=base<=g/\q.ownBlock≠I g
theorem WC {b base:Nat}{wr d W i:E}{q sv' x:Y}{T:TypeId}{xs:List Y}{zs:List Tree}{z:Tree}{F c:Nat}(r:base<=wr.heap.size)(B:b<base)(t:wr.ownsRow base T 1 q xs.length xs)(v:kW F wr (Yi base q) xs zs)(o:zf (zt b) wr d)(w:zG c d (λg=>wr.heap.size<=g) x z)(p:ziE d W) (a:W.grownBy i q.ownBlock) (u:∀k,sv'.ownBlock=I k->q.ownBlock=I k\/W.heap.size<=k):kW (max F c) i (Yi base sv') (xs++[x]) (zs++[z]):=by
 have j:kW F d (Yi base q) xs zs:=v.keep o (λg a e=>by unfold zt at e;have:=a.1;omega);have y:zG c d (Yi base q) x z:=zG.mono (λg _ a=>⟨zgN r a,λe=>by have:=(zh t g e).2;omega⟩) c x z w;have l:=(j.append y).keep p (λ_ _ f=>f);have m:kW (max F c) W (λg=>Yi base q g/\g<W.heap.size) (xs++[x]) (zs++[z]):=l.mono (λg s a=>⟨a,s⟩);have n:=m.keep (zf.ofGrown a) (λg a e=>a.1.2 e);exact n.mono (λg _ a=>⟨a.1.1,λe=>by
  rcases u g e with h|h;exact a.1.2 h;have:=a.2;omega⟩)
variable {w}
theorem zeW (h:w.ownsRow base T 1 q xs.length xs):Zb w (λg=>base<=g) q xs:=by
 have i:=zh h;have d:=@World.ownsRow.cells w base T 1 q xs.length xs h;rcases h.2 with⟨rfl,b⟩|⟨g,a,l,rfl,c,m,k,_⟩;exact Q ⟨rfl,zgY b⟩;exact O ⟨g,a,rfl,c,k,(i g rfl).2,λj x f=>by
  have:=d (g:=g) rfl j x f;have e:(⟨g,0,U⟩:Addr).add j=⟨g,j,U⟩:=(by unfold Addr.add;split<;>simp_all);rw[e] at this;exact this⟩
theorem Tryz.infoPtT:(prog.info? 99).map (λi=>(i.zero,i.size,i.bytes))=I (I Ui,1,16):=om
theorem X8 (T r:Int)(a:Nat->Addr)(D:Nat->Pro.Out)(DT:Nat->Tree)(w:E)(h:yh w b L n T r)(hS:yt w a)(t:11<=b)(N:L.length<=400)(hn:n<=L.length)(hF:Pro.Fit L)(hG:wI b L T r a D DT)(hD:DOK L D):Uh V 112 #[Ua (I ⟨b,0,U⟩)] w (xd b L T r a w (zS L T D n) (xX L T D DT n)):=by
 obtain⟨i0,hi,a0,a1,a2⟩:=info_parts Tryz.infoPtT;have aV:=h.lt;have HS:=ze hS;have HG:=ze hG;have HD:=ze hD;clear hS hG hD;go_enter func112,ntmps112;go_wp2_with fail;go_loopw[4] (λq wr=>∃(m f F:Nat) (sz:Int) (xs:List Y) (s:List Tree),m<=L.length/\xs.length<=m/\H (L.length<m+f)/\H (yh wr b L m T r)/\H (zf (zt b) w wr)/\H (wr.ownsRow w.heap.size 99 1 q xs.length xs)/\H (kW F wr (Yi w.heap.size q) xs s)/\H (zS L T D n=xD L T D f sz m)/\H (xX L T D DT n=ZH (ju L T D DT f s m))) (λ_ wr=>L.length-rdN wr b);exact⟨n,L.length+1-n,0,0,[],[],hn,ov,(by show _<_;omega),h,zf.refl _ _,zgP _ _ _ _,⟨rfl,λj x z u=>by simp at u⟩,rfl,rfl⟩;obtain⟨m,f,F,sz,xs,s,hm,bf,hf,HR,o,p,an,HF,HT⟩:=hrel;obtain⟨f,rfl⟩:∃f',f=f'+1:=⟨f-1,by have:=zb hf;omega⟩
 have c:=ze (Trk.start HR (HS.mine o t) t);have aX:=c.rdN;cases hst:Zc L m
 .have ah:m<L.length:=(by unfold Zc at hst;simp at hst;omega);have he:((m:Int) == (L.length:Int))=Z:=ou;have bb:(zj L m != 124)=G:=(by unfold Zc at hst;simp at hst ⊢;omega);have bc:(zj L m != 41)=G:=(by unfold Zc at hst;simp at hst ⊢;omega);have X:=Vg (T:=T) HD m ah;by_cases l:(yL L T D m).k=0
  .have y:H (zS L T D n=xD L T D f (min (sz+(yL L T D m).v) 301) (yL L T D m).n):=(by rw[zb HF];simp only[xD];rw[iN (by simp[hst]),iN (by simp[l])];rfl);have ae:H (xX L T D DT n=ZH (ju L T D DT f (s++[ja L T D DT m]) (yL L T D m).n)):=(by rw[zb HT];simp only[ju];rw[iN (by simp[hst])];rfl);obtain⟨sa,sn,sc,rfl⟩:=zr p;go_wp2_with(first
    |(go_at_call 63;refine(Xj (n:=m) (by exact c)).mono ?_;rintro e wq ⟨rfl,qq,rfl⟩)
    |(go_at_call 157;refine ziD (y8 (n:=m) (by exact c.drewN _) N oa) ?_)
    |(go_at_call 158;refine(WB b L m T r a D DT _ (Trk.rd (n:=m) (by exact c.drewN _)) (Trk.se (n:=m) (by exact c.drewN _)) t N ah hF HG HD).mono ?_;intro e S i;obtain⟨T3,y3,F3,rfl,aB,d,P⟩:=jv i l;have d:zf (zt b) wr S:=((zf.refl (zt b) wr).drewN _).trans d;have aM:H (zG F3 S (λg=>wr.heap.size<=g) (Ud T3 y3) (ja L T D DT m)):=aB;have W:=ze d;have ad:=ze P;have be:=d.size;have aK:=ze (zl p d (λg i e=>by unfold zt at e;have:=(zh p g i).1;omega));clear i aB d P)
    |(at_builtin;refine yq _ rfl _ _ 254 rfl w.heap.size 99 i0 Ui 1 16 underlying254 hi a0 a1 a2 rfl od _ _ xs rfl (zgO aK _) _ 1 1 [Ud T3 y3] rfl rfl (cell_one_new _ _ _) (λx u=>by simp at u;subst u;rfl) (by unfold maxLen;omega) oa (by simp;have:=o.size;omega) ?_;intro v' w4 aA ay aC;have aL:=ze aA;have af:=ze ay;have aN:=ze aC;clear aA ay aC))
   have aY:=o.size;have au:zf (zt b) w w4:=((o.trans W).alloc _).grown af (λj hj=>Or.inr (zh p j hj).1);have az:∀g,g<=b->¬((K sa sn sc).ownBlock=I g):=λg i e=>(by have:=(zh p g e).1;omega);have av:yh w4 b L (yL L T D m).n T r:=(ad.keep ((zf.refl (λ_=>False) S).alloc _) id (λ_ _ f=>f)).keep (zf.ofGrown af) (az b (zgH _)) (λg i=>az g oa);have T4:=Trk.start av (HS.mine au t) t;refine⟨⟨(yL L T D m).n,f,max F F3,_,xs++[Ud T3 y3],s++[ja L T D DT m],X.2.1,by have:=(X.2.2 l).1;simp;omega,(by have:=(X.2.2 l).1;have:=zb hf;show _<_;omega),av,au,(by show World.ownsRow _ _ _ _ _ _ _;rw[zgK];exact aL),WC aY aV p an W aM ((zf.refl _ _).alloc _) af aN,y,ae⟩,by rw[T4.rdN,aX];have:=(X.2.2 l).1;omega⟩
  have y:H (zS L T D n=yL L T D m):=(by rw[zb HF];simp only[xD];rw[iN (by simp[hst]),IN l];rfl);go_wp2_with(first
   |(go_at_call 63;refine(Xj (n:=m) (by exact c)).mono ?_;rintro e wq ⟨rfl,qq,rfl⟩)
   |(go_at_call 157;refine ziD (y8 (n:=m) (by exact c.drewN _) N oa) ?_)
   |(go_at_call 158;refine(WB b L m T r a D DT _ (Trk.rd (n:=m) (by exact c.drewN _)) (Trk.se (n:=m) (by exact c.drewN _)) t N ah hF HG HD).mono ?_;intro e S i;obtain⟨g3,rfl,aE,d,P⟩:=Xu i l;have aO:=ze aE;have W:=ze d;have ad:=ze P;clear i aE d P))
  go_ret2;rw[zb y];have d:zf (zt b) w S:=(o.drewN _).trans W;exact⟨d,ad,O ⟨l,_,rfl,aO.base o.size⟩⟩
 (have y:H (zS L T D n=good sz m):=(by rw[zb HF];simp only[xD];rw[IN hst];rfl);have ae:H (xX L T D DT n=ZH s):=(by rw[zb HT];simp only[ju];rw[IN hst];rfl);have aS:((m:Int) == (L.length:Int))=G\/(((m:Int) == (L.length:Int))=Z/\(zj L m != 124)=Z)\/(((m:Int) == (L.length:Int))=Z/\(zj L m != 124)=G/\(zj L m != 41)=Z):=by by_cases h1:m=L.length;left;simp[h1];right;by_cases h2:zj L m=124;left;exact⟨by simp;omega,by simp[h2]⟩;right;exact⟨by simp;omega,by simp[h2],by unfold Zc at hst;simp at hst ⊢;omega⟩);rcases aS with k1|⟨k1,k2⟩|⟨k1,k2,k3⟩
 all_goals
  go_wp2_with(first|(go_at_call 63;refine(Xj (n:=m) (by exact c)).mono ?_;rintro e wq ⟨rfl,qq,rfl⟩)|(go_at_call 157;refine ziD (y8 (n:=m) (by exact c.drewN _) N oa) ?_));go_ret2;have aD:=an.mono (B:=λg=>w.heap.size<=g) (λg _ i=>i.1);rw[zb ae];refine xd.good (F:=F+1) y (o.drewN _) (HR.drewN _) ?_;exact O (O (Q ⟨_,xs,s,rfl,rfl,(zeW p).keep ((zf.refl (λ_=>False) _).drewN _) (λ_ _ f=>f),oa,aD.1,λj x z' u hz=>zG.keep ((zf.refl (λ_=>False) _).drewN _) (λ_ _ f=>f) F x z' (aD.2 j x z' u hz)⟩))
variable {b L}
theorem WD {T p:Int}{a:Nat->Addr}{w wr h W i:E}{q sv' x:Y}{c:TypeId}{xs:List Y}{zs:List Tree}{z:Tree}{F o m:Nat}(y:b<w.heap.size)(_X:11<=b)(_S:yt w a)(r:zf (zt b) w wr)(n:wr.ownsRow w.heap.size c 1 q xs.length xs)(N:kW F wr (Yi w.heap.size q) xs zs)(s:zf (zt b) wr h)(u:yh h b L m T p)(P:zG o h (λg=>wr.heap.size<=g) x z)(l:ziE h W) (d:W.grownBy i q.ownBlock) (B:∀k,sv'.ownBlock=I k->q.ownBlock=I k\/W.heap.size<=k):zf (zt b) w i/\yh i b L m T p/\kW (max F o) i (Yi w.heap.size sv') (xs++[x]) (zs++[z]):=by
 have t:∀g,g<=b->¬(q.ownBlock=I g):=λg d e=>by have:=(zh n g e).1;omega
 refine⟨(((r.trans s).trans (l.mono (λ_ _ f=>f.elim)))).grown d (λj v=>Or.inr (zh n j v).1),(u.keep l id (λ_ _ f=>f)).keep (zf.ofGrown d) (t b (zgH _)) (λg d=>t g oa),WC r.size y n N s P l d B⟩
variable (b L)
theorem Zf (T t:Int)(a:Nat->Addr)(D:Nat->Pro.Out)(DT:Nat->Tree)(w:E)(h:yh w b L n T t)(hS:yt w a)(i:11<=b)(hL:L.length<=400)(hn:n<=L.length)(hF:Pro.Fit L)(hG:wI b L T t a D DT)(hD:DOK L D):Uh V 62 #[Ua (I ⟨b,0,U⟩)] w (xd b L T t a w (yR L T D n) (wG L T D DT n)):=by
 obtain⟨i0,hi,aP,aQ,aR⟩:=info_parts Tryz.infoPtT;have aM:=h.lt;have r:=ze hS;have HG:=ze hG;have HD:=ze hD;clear hS hG hD;go_enter func62,ntmps62;go_wp2_with fail;go_loopw[4] (λq wr=>∃(m f F:Nat) (ys:List Int) (xs:List Y) (X:List Tree),m<=L.length/\xs.length<=m/\H (L.length<m+f)/\H (yh wr b L m T t)/\H (zf (zt b) w wr)/\H (wr.ownsRow w.heap.size 99 1 q xs.length xs)/\H (kW F wr (Yi w.heap.size q) xs X)/\H (yR L T D n=vk L T D f ys m)/\H (wG L T D DT n=tAlt (altT L T D DT f X m))) (λ_ wr=>L.length-rdN wr b);exact⟨n,L.length+1-n,0,[],[],[],hn,ov,(by show _<_;omega),h,zf.refl _ _,zgP _ _ _ _,⟨rfl,λj x z p=>by simp at p⟩,rfl,rfl⟩;obtain⟨m,f,F,ys,xs,X,hm,a6,hf,HR,o,P,aG,HF,HT⟩:=hrel;obtain⟨f,rfl⟩:∃f',f=f'+1:=⟨f-1,by have:=zb hf;omega⟩
 have aZ:=(Trk.start HR (r.mine o i) i).rdN;have a4:=Xr (T:=T) HD m hm;by_cases W:(zS L T D m).k=0
 .obtain⟨sa,sn,sc,rfl⟩:=zr P;by_cases y:zj L (zS L T D m).n=124
  .have m1:zE L (zS L T D m).n { data:=#[124] }=G:=(by rw[zH L _ 124 124 rfl];simp[y]);have a5:=zJ (L:=L) (n:=(zS L T D m).n) oa;have aa:H (yR L T D n=vk L T D f (ys++[(zS L T D m).v]) ((zS L T D m).n+1)):=(by rw[zb HF];simp only[vk];rw[iN (by simp[W]),IN y];rfl);have av:H (wG L T D DT n=tAlt (altT L T D DT f (X++[xX L T D DT m]) ((zS L T D m).n+1))):=(by rw[zb HT];simp only[altT];rw[IN y];rfl);clear y;go_wp2_with(first
    |(go_at_call 112;refine(X8 b L m T t a D DT _ HR (r.mine o i) i hL hm hF HG HD).mono ?_;intro e w3 d;obtain⟨s,N,F3,rfl,ah,l,u⟩:=jv d W;have ax:=ze ah;have ab:=ze l;have ac:=ze u;have a0:=l.size;have aw:=ze (zl P l (λg d e=>by unfold zt at e;have:=(zh P g d).1;omega));clear d ah l u)
    |(at_builtin;refine yq _ rfl _ _ 243 rfl w.heap.size 99 i0 Ui 1 16 underlying243 hi aP aQ aR rfl od _ _ xs rfl (zgO aw _) _ 1 1 [Ud s N] rfl rfl (cell_one_new _ _ _) (λx p=>by simp at p;subst p;rfl) (by unfold maxLen;omega) oa (by simp;have:=o.size;omega) ?_;intro v' w4 ag af ai;have aA:=WD aM i r o P aG ab ac ax ((zf.refl _ _).alloc _) af ai;obtain⟨S,ae,aj⟩:=aA;have c:=ze (Trk.start ae (r.mine S i) i);have au:=ze S;have ay:=ze aj;have ao:=ze ag;clear ag af ai S ae aj)
    |(go_at_call 113;refine(vF (n:=(zS L T D m).n) _ (by exact c) hL oa od ox).mono ?_;rintro e wq ⟨rfl,tq⟩;have tq:Trk _ _ b L (((zS L T D m).n)+1) T t a wq:=tq;have c:=ze tq;have c1:=tq.c1;have f1:=tq.f1))
   have aB:=Own.to c.on;have aC:wq.ownsRow w.heap.size 99 1 v' (xs.length+1) (xs++[Ud s N]):=zl ao aB (λg d e=>by unfold zt at e;have:=(zh ao g d).1;omega);exact⟨⟨(zS L T D m).n+1,f,max F F3,_,xs++[Ud s N],X++[xX L T D DT m],oa,by simp;omega,(by have:=zb hf;show _<_;omega),c.rd,au.trans aB,(by show World.ownsRow _ _ _ _ _ _ _;rw[zgK];exact aC),ze (ay.keep aB (λg d e=>by unfold zt at e;have:=d.1;omega)),aa,av⟩,by rw[(zb c).rdN,aZ];omega⟩
  have m1:zE L (zS L T D m).n { data:=#[124] }=Z:=(by rw[zH L _ 124 124 rfl];simp[y]);have aa:H (yR L T D n=good (min (xr 0 (ys++[(zS L T D m).v])+((ys.length:Int)+1)-1) 301) (zS L T D m).n):=(by rw[zb HF];simp only[vk];rw[iN (by simp[W]),iN y];rfl);have av:H (wG L T D DT n=tAlt (X++[xX L T D DT m])):=(by rw[zb HT];simp only[altT];rw[iN y];rfl);clear y;go_wp2_with(first
   |(go_at_call 112;refine(X8 b L m T t a D DT _ HR (r.mine o i) i hL hm hF HG HD).mono ?_;intro e w3 d;obtain⟨s,N,F3,rfl,ah,l,u⟩:=jv d W;have ax:=ze ah;have ab:=ze l;have ac:=ze u;have a0:=l.size;have aw:=ze (zl P l (λg d e=>by unfold zt at e;have:=(zh P g d).1;omega));clear d ah l u)
   |(at_builtin;refine yq _ rfl _ _ 243 rfl w.heap.size 99 i0 Ui 1 16 underlying243 hi aP aQ aR rfl od _ _ xs rfl (zgO aw _) _ 1 1 [Ud s N] rfl rfl (cell_one_new _ _ _) (λx p=>by simp at p;subst p;rfl) (by unfold maxLen;omega) oa (by simp;have:=o.size;omega) ?_;intro v' w4 ag af ai;have aA:=WD aM i r o P aG ab ac ax ((zf.refl _ _).alloc _) af ai;obtain⟨S,ae,aj⟩:=aA;have c:=ze (Trk.start ae (r.mine S i) i);have au:=ze S;have ay:=ze aj;have ao:=ze ag;clear ag af ai S ae aj)
   |(go_at_call 113;refine(xF (n:=(zS L T D m).n) _ (by exact c) hL oa od ox).mono ?_;rintro e wq ⟨rfl,qq,rfl⟩))
  go_ret2;have aN:=ay.mono (B:=λg=>w.heap.size<=g) (λg _ d=>d.1);have aC:w4.ownsRow w.heap.size 99 1 v' (xs++[Ud s N]).length (xs++[Ud s N]):=(by rw[zgK];exact ao);rw[zb av];refine xd.good (F:=max F F3+1) aa (au.drewN _) (c.rd.drewN _) ?_;exact O (Q ⟨_,xs++[Ud s N],X++[xX L T D DT m],rfl,rfl,(zeW aC).keep ((zf.refl (λ_=>False) _).drewN _) (λ_ _ f=>f),by simp;omega,aN.1,λj x z' p hz=>zG.keep ((zf.refl (λ_=>False) _).drewN _) (λ_ _ f=>f) _ x z' (aN.2 j x z' p hz),ov⟩)
 have aa:H (yR L T D n=zS L T D m):=(by rw[zb HF];simp only[vk];rw[IN W];rfl);go_wp2_with(first
  |(go_at_call 112;refine(X8 b L m T t a D DT _ HR (r.mine o i) i hL hm hF HG HD).mono ?_;intro e w3 d;obtain⟨g3,rfl,aO,l,u⟩:=Xu d W;have aW:=ze aO;have ab:=ze l;have ac:=ze u;clear d aO l u))
 go_ret2;rw[zb aa];exact⟨o.trans ab,ac,O ⟨W,_,rfl,aW.base o.size⟩⟩
theorem yh.setDT {b:Nat}{L:List (Int×Int)}{n:Nat}{T f:Int}(h:yh w b L n T f)(j:Int):yh (w.setCell ⟨b,3,U⟩ (M J j)) b L n T j:=by obtain⟨a,c1,c,d,f1,i⟩:=h;refine⟨?_,(zgI _ _ _ _ ov).trans c1,(zgI _ _ _ _ ov).trans c,zgL _ _ _ d,(zk _ _ _ _).trans f1,(zk _ _ _ _).trans i⟩;rcases a with⟨g,e,a,k,l,m⟩|⟨rfl,a⟩;exact Q ⟨g,e,(zgI _ _ _ _ ov).trans a,k,l,m.keep ((zf.refl (zt b) w).mine 3 _) (by unfold zt;omega)⟩;exact O ⟨rfl,(zgI _ _ _ _ ov).trans a⟩
theorem zdT {b F:Nat}{w w1 c d:E}{v:Y}{z:Tree}(i:b<w.heap.size)(f:zf (zt b) w w1)(j:zG F c (λg=>w1.heap.size<=g) v z)(h:zf (zt b) c d):zG F d (λg=>w.heap.size<=g) v z:=
 zG.keep h (A:=λg=>w.heap.size<=g) (λg a e=>by unfold zt at e;subst e;exact absurd i (Nat.not_lt.2 a)) F v z (zG.mono (λg _ a=>zgN f.size a) F v z j)
theorem zcx (T:Int)(a:Nat->Addr)(i:11<=b)(g:L.length<=400):wI b L T 10 a (zD L T 0) (qC L T 0):=by
 intro n w h d m;have c:=ze (Trk.start h d i);have l:=h.c3;have o:=d.s7;clear h d;go_enter func221,ntmps221;go_wp2_with fail;go_region_with(first
  |(go_at_call 114;refine(qj (n:=n) (by exact c.drewN _) g oa).mono ?_;rintro e k ⟨rfl,q,rfl⟩)
  |(go_at_call 45;refine(JB (n:=n) _ 7 _ _ rfl (by exact c.drewN _)).mono ?_;rintro e k ⟨v,rfl,j,f⟩))
 all_goals go_wp2_with fail
 all_goals
  go_ret2;exact xd.bad rfl (show(7:Nat)≠0 by decide) (Own.to f.on) f.rd j
theorem zcy (T f:Int)(a:Nat->Addr)(r:Nat)(m:11<=b)(u:L.length<=400)(h0:0<=f)(h1:f<10)(hA:∀(n:Nat) (w:E),yh w b L n T (f+1)->yt w a->n<=L.length->Uh V 62 #[Ua (I ⟨b,0,U⟩)] w (xd b L T (f+1) a w (yR L T (zD L T r) n) (wG L T (zD L T r) (qC L T r) n))):wI b L T f a (zD L T (r+1)) (qC L T (r+1)):=by
 intro n w h hS S;have aw:=h.lt;have X:=ze h;have N:=ze hS;have HA:=ze hA;have c3:=h.c3;have hd:(f == 10)=Z:=by simp;omega
 clear h hS hA;have ho:=QQ (L:=L) (T:=T) n S;have ha:=Yf (T:=T) (qI (L:=L) (T:=T) r) (z8 L T n).n ho.2;by_cases p:(z8 L T n).k=0
 .by_cases x:(yR L T (zD L T r) (z8 L T n).n).k=0
  .by_cases z:zj L (yR L T (zD L T r) (z8 L T n).n).n=41
   .have m1:zE L (yR L T (zD L T r) (z8 L T n).n).n { data:=#[41] }=G:=(by rw[zH L _ 41 41 rfl];simp[z]);have s:H (zD L T (r+1) n=good (yR L T (zD L T r) (z8 L T n).n).v ((yR L T (zD L T r) (z8 L T n).n).n+1)):=(by simp only[zD];unfold wF;rw[iN (by simp[p]),iN (by simp[x]),IN z];rfl);clear z;go_enter func221,ntmps221;go_wp2_with(first
     |(go_at_call 251;refine(Zd b L n T f a _ X N m u S).mono ?_;rintro e B ⟨d,l⟩;obtain⟨rfl,_⟩:=YP l p;clear l;have i:=ze d;have af:=d.rd.c3;have ah:=d.rd.f3;clear d)
     |(go_at_call 62;refine(zb HA (z8 L T n).n _ (i.rd.setDT _) (i.se.mine ((zf.refl _ _).mine _ _) m) ho.2).mono ?_;intro e w2 o;obtain⟨T2,y2,F2,rfl,W,q,j⟩:=jv o x;have ae:=ze W;have y:=ze q;have F:=ze j;have ag:=j.c3;have ai:=j.f3;clear o W q j)
     |(go_at_call 113;refine(jM b L (yR L T (zD L T r) (z8 L T n).n).n T f _ _ (F.setDT _) u oa od ox).mono ?_;rintro e w3 ⟨rfl,al,ak⟩;have aq:=ze al;have ap:=ze ak;clear al ak))
    go_ret2;have t:zf (zt b) w (B.setCell ⟨b,3,U⟩ (M J (f+1))):=(Own.to i.on).mine _ _;have P:zf (zt b) w2 w3:=((zf.refl (zt b) w2).mine 3 _).trans ap;exact xd.good s ((t.trans y).trans P) aq (zdT aw t ae P)
   have m1:zE L (yR L T (zD L T r) (z8 L T n).n).n { data:=#[41] }=Z:=(by rw[zH L _ 41 41 rfl];simp[z]);have s:H (zD L T (r+1) n=Pro.bad 3 (zC L T (yR L T (zD L T r) (z8 L T n).n).n) (yR L T (zD L T r) (z8 L T n).n).n):=(by simp only[zD];unfold wF;rw[iN (by simp[p]),iN (by simp[x]),iN z];rfl);clear z;go_enter func221,ntmps221;go_wp2_with(first
    |(go_at_call 251;refine(Zd b L n T f a _ X N m u S).mono ?_;rintro e B ⟨d,l⟩;obtain⟨rfl,_⟩:=YP l p;clear l;have i:=ze d;have af:=d.rd.c3;have ah:=d.rd.f3;clear d)
    |(go_at_call 62;refine(zb HA (z8 L T n).n _ (i.rd.setDT _) (i.se.mine ((zf.refl _ _).mine _ _) m) ho.2).mono ?_;intro e w2 o;obtain⟨T2,y2,F2,rfl,W,q,j⟩:=jv o x;have ae:=ze W;have y:=ze q;have F:=ze j;have ag:=j.c3;have ai:=j.f3;clear o W q j);(have c:=ze (Trk.start (F.setDT f) ((N.mine (((Own.to i.on).mine 3 _).trans y) m).mine ((zf.refl _ _).mine 3 _) m) m))
    |(go_at_call 113;refine(xF (n:=(yR L T (zD L T r) (z8 L T n).n).n) _ (by exact c) u oa od ox).mono ?_;rintro e wq ⟨rfl,qq,rfl⟩)
    |(go_at_call 64;refine(QB (n:=(yR L T (zD L T r) (z8 L T n).n).n) (by exact c.drewN _) u oa).mono ?_;rintro e wq ⟨v,rfl,hv,d⟩;have c:=ze d;have c1:=d.c1;have f1:=d.f1))
   go_ret2;have t:zf (zt b) w (B.setCell ⟨b,3,U⟩ (M J (f+1))):=(Own.to i.on).mine _ _;have P:=(t.trans y).mine 3 (M J f);exact xd.bad s od (P.trans (Own.to c.on)) c.rd (hv.base P.size)
  have s:H (zD L T (r+1) n=(yR L T (zD L T r) (z8 L T n).n)):=(by simp only[zD];unfold wF;rw[iN (by simp[p]),IN x];rfl);go_enter func221,ntmps221;go_wp2_with(first
   |(go_at_call 251;refine(Zd b L n T f a _ X N m u S).mono ?_;rintro e B ⟨d,l⟩;obtain⟨rfl,_⟩:=YP l p;clear l;have i:=ze d;have af:=d.rd.c3;have ah:=d.rd.f3;clear d)
   |(go_at_call 62;refine(zb HA (z8 L T n).n _ (i.rd.setDT _) (i.se.mine ((zf.refl _ _).mine _ _) m) ho.2).mono ?_;intro e w2 o;obtain⟨g2,rfl,an,q,j⟩:=Xu o x;have ar:=ze an;have y:=ze q;have F:=ze j;have ag:=j.c3;have ai:=j.f3;clear o an q j))
  go_ret2;have t:zf (zt b) w (B.setCell ⟨b,3,U⟩ (M J (f+1))):=(Own.to i.on).mine _ _;rw[zb s];exact⟨(t.trans y).mine 3 _,F.setDT f,O ⟨x,_,rfl,(ar.base t.size).keep ((zf.refl (zt b) _).mine 3 _) (λg o e=>by unfold zt at e;omega)⟩⟩
 have s:H (zD L T (r+1) n=z8 L T n):=by simp only[zD];unfold wF;rw[IN p];rfl
 go_enter func221,ntmps221;go_wp2_with(go_at_call 251;refine(Zd b L n T f a _ X N m u S).mono ?_;rintro e B ⟨d,l⟩;obtain⟨v,rfl,hv⟩:=zai l p;clear l;obtain⟨gv,av⟩:=hv.form;subst av;have i:=ze d;clear d);go_ret2;rw[zb s];exact⟨Own.to i.on,i.rd,O ⟨p,_,rfl,hv⟩⟩
theorem Vo (b:Nat)(L:List (Int×Int))(T:Int)(a:Nat->Addr)(d:11<=b)(c:L.length<=400)(e:Pro.Fit L):∀r:Nat,r<=10->wI b L T ((10:Int)-r) a (zD L T r) (qC L T r)
 |0,_=>zcx b L T a d c
 |r+1,j=>by
  have f:=Vo b L T a d c e r oa;refine zcy b L T _ a r d c oa oa ?_;rw[show((10:Int)-((r+1:Nat):Int))+1=(10:Int)-r by omega];intro n w h g i;exact Zf b L n T _ a (zD L T r) (qC L T r) w h g d c i e f (qI r)
theorem kH (T:Int)(a:Nat->Addr)(w:E)(h:yh w b L n T 0)(f:yt w a)(e:11<=b)(d:L.length<=400)(g:n<=L.length)(c:Pro.Fit L):Uh V 62 #[Ua (I ⟨b,0,U⟩)] w (xd b L T 0 a w (yR L T (zD L T 10) n) (wG L T (zD L T 10) (qC L T 10) n)):=
 Zf b L n T 0 a (zD L T 10) (qC L T 10) w h f e d g c (Vo b L T a e d c 10 oa) (qI 10)
end
section
open Sm (Tree yJ)
namespace Pro
def ZJ (T:Tree)(v:Int):Prop:=∃a,∀F,a<=F->yJ F T=v
def Yq (b:List Tree)(zs:List Int):Prop:=∃a,∀F,a<=F->b.map (yJ F)=zs
theorem J8 {T:Tree}(h:T.kind<=4):ZJ T 1:=⟨1,λF a=>by
 obtain⟨g,rfl⟩:∃g,F=g+1:=⟨F-1,oa⟩
 unfold yJ;rw[iN oa,iN oa,iN oa]⟩
theorem sz_nil:Yq [] []:=⟨0,λ_ _=>rfl⟩
theorem Yq.snoc {a:List Tree}{zs:List Int}{t:Tree}{z:Int}:Yq a zs->ZJ t z->Yq (a++[t]) (zs++[z])
 |⟨b,h⟩,⟨c,g⟩=>⟨max b c,λF d=>by rw[zhO,h F oa];simp[g F oa]⟩
theorem sz_seq {a:List Tree}{zs:List Int}:Yq a zs->ZJ (ZH a) (xr 0 zs)
 |⟨b,h⟩=>⟨b+1,λF c=>by
  obtain⟨g,rfl⟩:∃g,F=g+1:=⟨F-1,oa⟩
  conv=>lhs;unfold yJ
  rw[iN (by simp[ZH]),IN (by rfl)];show xr 0 (a.map (yJ g))=_;rw[h g oa]⟩
theorem Yq.len {a:List Tree}{zs:List Int}:Yq a zs->a.length=zs.length
 |⟨b,h⟩=>by rw[<-h b (zgH _)];simp
theorem sz_alt {a:List Tree}{zs:List Int}(b:Yq a zs):ZJ (tAlt a) (min (xr 0 zs+zs.length-1) 301):=by
 have d:=b.len;obtain⟨c,h⟩:=b;refine⟨c+1,λF e=>?_⟩;obtain⟨g,rfl⟩:∃g,F=g+1:=⟨F-1,oa⟩
 conv=>lhs;unfold yJ
 rw[IN (by rfl)];show min (xr 0 (a.map (yJ g))+(a.length:Int)-1) 301=_;rw[h g oa,d]
theorem sz_rep {t:Tree}{z:Int}(l m:Int):ZJ t z->ZJ (vH t l m) (min (j7 z l m) 301)
 |⟨a,h⟩=>⟨a+1,λF b=>by
  obtain⟨g,rfl⟩:∃g,F=g+1:=⟨F-1,oa⟩
  conv=>lhs;unfold yJ
  rw[iN (by simp[vH]),iN (by simp[vH]),IN (by rfl)];show min (j7 (yJ g t) l m) 301=_;rw[h g oa]⟩
section
variable {L:List (Int×Int)} {T:Int}
theorem let_lt {n:Nat}{c:Int}(h:zj L n=c)(b:0<=c):n<L.length:=by by_cases a:n<L.length;exact a;rw[xZ oa] at h;omega
theorem atomT_sz {D:Nat->Out}{DT:Nat->Tree}(h:∀n,n<L.length->(D n).k=0->ZJ (DT n) (D n).v)(n:Nat)(a:(zM L T D n).k=0):ZJ (xi L T DT n) (zM L T D n).v:=by unfold zM at a ⊢;unfold xi;by_cases g:Ye (zj L n)=G;rw[IN g] at a;simp[bad] at a;rw[iN g] at a ⊢;by_cases d:zj L n=40;rw[IN d] at a ⊢;rw[IN d];exact h n (let_lt (c:=40) d oa) a;rw[iN d] at a ⊢;rw[iN d];by_cases e:zj L n=91;rw[IN e] at a ⊢;rw[IN e];unfold one at a ⊢;split at a;rename_i b;rw[IN b];exact J8 (by simp[xP,vG]);rename_i b;exact absurd a b;rw[iN e] at a ⊢;rw[iN e];by_cases b:zj L n=92;rw[IN b] at a ⊢;rw[IN b];unfold one at a ⊢;split at a;rename_i f;rw[IN f];unfold oneT;split<;>exact J8 (by simp[qJ,ji]);rename_i f;exact absurd a f;rw[iN b] at a ⊢;rw[iN b];split<;>exact J8 (by simp[wP,ji])
theorem termT_sz {D:Nat->Out}{DT:Nat->Tree}(g:∀n,n<L.length->(D n).k=0->ZJ (DT n) (D n).v)(n:Nat)(a:(yL L T D n).k=0):ZJ (ja L T D DT n) (yL L T D n).v:=by unfold yL at a ⊢;unfold ja;by_cases b:asN L n≠0;rw[IN b,IN b];exact J8 (by simp[wO]);rw[iN b] at a ⊢;rw[iN b];by_cases c:(zM L T D n).k≠0;rw[IN c] at a;exact absurd a c;rw[iN c] at a ⊢;have f:=atomT_sz (L:=L) (T:=T) g n (by simpa using c);by_cases d:(zy L T (zM L T D n).n).1=Z;rw[IN d,IN d];exact f;rw[iN d] at a ⊢;rw[iN d];by_cases e:(zy L T (zM L T D n).n).2.1.k≠0;rw[IN e] at a;exact absurd a e;rw[iN e];exact sz_rep _ _ f
theorem WE {D:Nat->Out}{DT:Nat->Tree}(e:∀n,n<L.length->(D n).k=0->ZJ (DT n) (D n).v):∀(f:Nat) (d:List Tree) (zs:List Int) (n:Nat),Yq d zs->(xD L T D f (xr 0 zs) n).k=0->∃g,Yq (ju L T D DT f d n) g/\(xD L T D f (xr 0 zs) n).v=xr 0 g
 |0,_,zs,_,h,_=>⟨zs,h,rfl⟩
 |f+1,d,zs,n,h,a=>by
  unfold xD at a ⊢;unfold ju;by_cases b:Zc L n=G;rw[IN b,IN b];exact⟨zs,h,rfl⟩;rw[iN b] at a ⊢;rw[iN b];by_cases c:(yL L T D n).k≠0;rw[IN c] at a;exact absurd a c;rw[iN c] at a ⊢;have i:=termT_sz (L:=L) (T:=T) e n (by simpa using c);rw[<-sumS_append] at a ⊢;exact WE e f _ _ _ (h.snoc i) a
theorem zgl {D:Nat->Out}{DT:Nat->Tree}(c:∀n,n<L.length->(D n).k=0->ZJ (DT n) (D n).v)(n:Nat)(d:(zS L T D n).k=0):ZJ (xX L T D DT n) (zS L T D n).v:=by obtain⟨f,a,b⟩:=WE c (L.length+1-n) [] [] n sz_nil d;have e:(zS L T D n).v=xr 0 f:=b;rw[e];exact sz_seq a
theorem zeX {D:Nat->Out}{DT:Nat->Tree}(i:DOK L D)(g:∀n,n<L.length->(D n).k=0->ZJ (DT n) (D n).v):∀(f:Nat) (d:List Tree) (zs:List Int) (n:Nat),n<=L.length->L.length+1-n<=f->Yq d zs->(vk L T D f zs n).k=0->∃e,Yq (altT L T D DT f d n) e/\(vk L T D f zs n).v=min (xr 0 e+e.length-1) 301
 |0,_,_,n,h,m,_,_=>oa
 |f+1,d,zs,n,h,m,l,a=>by
  unfold vk at a ⊢;unfold altT;have o:=Xr (T:=T) i n h;by_cases c:(zS L T D n).k≠0;rw[IN c] at a;exact absurd a c;rw[iN c] at a ⊢;have j:=zgl (L:=L) (T:=T) g n (by simpa using c);by_cases b:zj L (zS L T D n).n=124;rw[IN b] at a ⊢;rw[IN b];have p:=let_lt b oa;exact zeX i g f _ _ _ oa oa (l.snoc j) a;rw[iN b,iN b];refine⟨zs++[(zS L T D n).v],l.snoc j,?_⟩;rw[zgK];rfl
theorem zeY {D:Nat->Out}{DT:Nat->Tree}(f:DOK L D)(d:∀n,n<L.length->(D n).k=0->ZJ (DT n) (D n).v)(n:Nat)(h:n<=L.length)(g:(yR L T D n).k=0):ZJ (wG L T D DT n) (yR L T D n).v:=by obtain⟨a,b,c⟩:=zeX f d (L.length+1-n) [] [] n h (zgH _) sz_nil g;have e:(yR L T D n).v=min (xr 0 a+a.length-1) 301:=c;rw[e];exact sz_alt b
theorem zcz:∀(r n:Nat),n<L.length->(zD L T r n).k=0->ZJ (qC L T r n) (zD L T r n).v
 |0,_,_,a=>by simp[zD,bad] at a
 |r+1,n,d,a=>by
  have g:=QQ (L:=L) (T:=T) n d;have e:zD L T (r+1) n=wF L T (yR L T (zD L T r)) n:=rfl;rw[e] at a ⊢;unfold wF at a ⊢;by_cases c:(z8 L T n).k≠0;rw[IN c] at a;exact absurd a c;rw[iN c] at a ⊢;by_cases b:(yR L T (zD L T r) (z8 L T n).n).k≠0;rw[IN b] at a;exact absurd a b;rw[iN b] at a ⊢;by_cases f:zj L (yR L T (zD L T r) (z8 L T n).n).n=41;rw[IN f];exact zeY (qI r) (λn d a=>zcz r n d a) _ oa (by simpa using b);rw[iN f] at a;simp[bad] at a
theorem zcA (r n:Nat)(b:n<=L.length)(a:(yR L T (zD L T r) n).k=0):ZJ (wG L T (zD L T r) (qC L T r) n) (yR L T (zD L T r) n).v:=zeY (qI r) (λn b a=>zcz r n b a) n b a
end
theorem ZJ.at {T:Tree}{v:Int}{F:Nat}(h:ZJ T v)(c:WF F T):yJ F T=v:=by obtain⟨a,b⟩:=h;rw[<-zas c (show F<=max F a by omega)];exact b _ oa
end Pro
end
section
open Go.RowKit
set_option maxHeartbeats 4000000
set_option maxRecDepth 1000000
theorem Tryz.as00:(Uk (Ud 162 v) 99 162 G).run V w=.ok (Ue #[v,C G]) w:=om
theorem Tryz.as01:(Uk (Ud 162 v) 99 246 G).run V w=.ok (Ue #[Uf #[],C Z]) w:=om
theorem Tryz.as02:(Uk (Ud 162 v) 99 247 G).run V w=.ok (Ue #[M Ug 0,C Z]) w:=om
theorem Tryz.as03:(Uk (Ud 162 v) 99 248 G).run V w=.ok (Ue #[M Ug 0,C Z]) w:=om
theorem Tryz.as04:(Uk (Ud 162 v) 99 252 G).run V w=.ok (Ue #[Uf #[C Z,K U 0 0,K U 0 0],C Z]) w:=om
theorem Tryz.as10:(Uk (Ud 246 v) 99 162 G).run V w=.ok (Ue #[M J 0,C Z]) w:=om
theorem Tryz.as11:(Uk (Ud 246 v) 99 246 G).run V w=.ok (Ue #[v,C G]) w:=om
theorem Tryz.as12:(Uk (Ud 246 v) 99 247 G).run V w=.ok (Ue #[M Ug 0,C Z]) w:=om
theorem Tryz.as13:(Uk (Ud 246 v) 99 248 G).run V w=.ok (Ue #[M Ug 0,C Z]) w:=om
theorem Tryz.as14:(Uk (Ud 246 v) 99 252 G).run V w=.ok (Ue #[Uf #[C Z,K U 0 0,K U 0 0],C Z]) w:=om
theorem Tryz.as20:(Uk (Ud 247 v) 99 162 G).run V w=.ok (Ue #[M J 0,C Z]) w:=om
theorem Tryz.as21:(Uk (Ud 247 v) 99 246 G).run V w=.ok (Ue #[Uf #[],C Z]) w:=om
theorem Tryz.as22:(Uk (Ud 247 v) 99 247 G).run V w=.ok (Ue #[v,C G]) w:=om
theorem Tryz.as23:(Uk (Ud 247 v) 99 248 G).run V w=.ok (Ue #[M Ug 0,C Z]) w:=om
theorem Tryz.as24:(Uk (Ud 247 v) 99 252 G).run V w=.ok (Ue #[Uf #[C Z,K U 0 0,K U 0 0],C Z]) w:=om
theorem Tryz.as30:(Uk (Ud 248 v) 99 162 G).run V w=.ok (Ue #[M J 0,C Z]) w:=om
theorem Tryz.as31:(Uk (Ud 248 v) 99 246 G).run V w=.ok (Ue #[Uf #[],C Z]) w:=om
theorem Tryz.as32:(Uk (Ud 248 v) 99 247 G).run V w=.ok (Ue #[M Ug 0,C Z]) w:=om
theorem Tryz.as33:(Uk (Ud 248 v) 99 248 G).run V w=.ok (Ue #[v,C G]) w:=om
theorem Tryz.as34:(Uk (Ud 248 v) 99 252 G).run V w=.ok (Ue #[Uf #[C Z,K U 0 0,K U 0 0],C Z]) w:=om
theorem Tryz.as40:(Uk (Ud 252 v) 99 162 G).run V w=.ok (Ue #[M J 0,C Z]) w:=om
theorem Tryz.as41:(Uk (Ud 252 v) 99 246 G).run V w=.ok (Ue #[Uf #[],C Z]) w:=om
theorem Tryz.as42:(Uk (Ud 252 v) 99 247 G).run V w=.ok (Ue #[M Ug 0,C Z]) w:=om
theorem Tryz.as43:(Uk (Ud 252 v) 99 248 G).run V w=.ok (Ue #[M Ug 0,C Z]) w:=om
theorem Tryz.as44:(Uk (Ud 252 v) 99 252 G).run V w=.ok (Ue #[v,C G]) w:=om
theorem Tryz.as50:(Uk (Ud 243 v) 99 162 G).run V w=.ok (Ue #[M J 0,C Z]) w:=om
theorem Tryz.as51:(Uk (Ud 243 v) 99 246 G).run V w=.ok (Ue #[Uf #[],C Z]) w:=om
theorem Tryz.as52:(Uk (Ud 243 v) 99 247 G).run V w=.ok (Ue #[M Ug 0,C Z]) w:=om
theorem Tryz.as53:(Uk (Ud 243 v) 99 248 G).run V w=.ok (Ue #[M Ug 0,C Z]) w:=om
theorem Tryz.as54:(Uk (Ud 243 v) 99 252 G).run V w=.ok (Ue #[Uf #[C Z,K U 0 0,K U 0 0],C Z]) w:=om
theorem Tryz.as55:(Uk (Ud 243 v) 99 243 G).run V w=.ok (Ue #[v,C G]) w:=om
theorem Tryz.as60:(Uk (Ud 254 v) 99 162 G).run V w=.ok (Ue #[M J 0,C Z]) w:=om
theorem Tryz.as61:(Uk (Ud 254 v) 99 246 G).run V w=.ok (Ue #[Uf #[],C Z]) w:=om
theorem Tryz.as62:(Uk (Ud 254 v) 99 247 G).run V w=.ok (Ue #[M Ug 0,C Z]) w:=om
theorem Tryz.as63:(Uk (Ud 254 v) 99 248 G).run V w=.ok (Ue #[M Ug 0,C Z]) w:=om
theorem Tryz.as64:(Uk (Ud 254 v) 99 252 G).run V w=.ok (Ue #[Uf #[C Z,K U 0 0,K U 0 0],C Z]) w:=om
theorem Tryz.as65:(Uk (Ud 254 v) 99 243 G).run V w=.ok (Ue #[K U 0 0,C Z]) w:=om
theorem Tryz.as66:(Uk (Ud 254 v) 99 254 G).run V w=.ok (Ue #[v,C G]) w:=om
theorem Tryz.as70:(Uk (Ud 256 v) 99 162 G).run V w=.ok (Ue #[M J 0,C Z]) w:=om
theorem Tryz.as71:(Uk (Ud 256 v) 99 246 G).run V w=.ok (Ue #[Uf #[],C Z]) w:=om
theorem Tryz.as72:(Uk (Ud 256 v) 99 247 G).run V w=.ok (Ue #[M Ug 0,C Z]) w:=om
theorem Tryz.as73:(Uk (Ud 256 v) 99 248 G).run V w=.ok (Ue #[M Ug 0,C Z]) w:=om
theorem Tryz.as74:(Uk (Ud 256 v) 99 252 G).run V w=.ok (Ue #[Uf #[C Z,K U 0 0,K U 0 0],C Z]) w:=om
theorem Tryz.as75:(Uk (Ud 256 v) 99 243 G).run V w=.ok (Ue #[K U 0 0,C Z]) w:=om
theorem Tryz.as76:(Uk (Ud 256 v) 99 254 G).run V w=.ok (Ue #[K U 0 0,C Z]) w:=om
theorem Tryz.as77:(Uk (Ud 256 v) 99 256 G).run V w=.ok (Ue #[v,C G]) w:=om
theorem leaf_any (T:TypeId)(x:Y)(h:leafT T):Uh V 65 #[Ud T x] w λe g=>e=R (M J 1)/\g=w:=by
 rcases h with rfl|rfl|rfl|rfl|rfl
 .have a:=Tryz.as00;have b:=Tryz.as01;have c:=Tryz.as02;have d:=Tryz.as03;have f:=Tryz.as04;go_enter func65,ntmps65;go_wp2_with fail;go_ret;exact⟨rfl,rfl⟩
 .have a:=Tryz.as10;have b:=Tryz.as11;have c:=Tryz.as12;have d:=Tryz.as13;have f:=Tryz.as14;go_enter func65,ntmps65;go_wp2_with fail;go_ret;exact⟨rfl,rfl⟩
 .have a:=Tryz.as20;have b:=Tryz.as21;have c:=Tryz.as22;have d:=Tryz.as23;have f:=Tryz.as24;go_enter func65,ntmps65;go_wp2_with fail;go_ret;exact⟨rfl,rfl⟩
 .have a:=Tryz.as30;have b:=Tryz.as31;have c:=Tryz.as32;have d:=Tryz.as33;have f:=Tryz.as34;go_enter func65,ntmps65;go_wp2_with fail;go_ret;exact⟨rfl,rfl⟩
 have a:=Tryz.as40;have b:=Tryz.as41;have c:=Tryz.as42;have d:=Tryz.as43;have f:=Tryz.as44;go_enter func65,ntmps65;go_wp2_with fail;go_ret;exact⟨rfl,rfl⟩
def Vp (f:Nat):Prop:=∀(w:E) (a:Nat->Prop) (v:Y) (z:Int),yu f w a v z->Uh V 65 #[v] w λe b=>e=R (M J z)/\ziE w b
theorem yu.drewN {f:Nat}{w:E}{A:Nat->Prop}{v:Y}{z:Int}(h:yu f w A v z)(q:Nat):yu f (w.drewN q) A v z:=yu.keep ((zf.refl (λ_=>False) w).drewN q) (λ_ _ f=>f) f v z h
theorem zeZ (o:Vp f)(w:E)(A:Nat->Prop)(q:Y)(xs:List Y)(zs:List Int)(L:Zb w A q xs)(hx:xs.length<=1000)(h:Sizes f w A xs zs):Uh V 115 #[q] w λe S=>e=R (M J (xr 0 zs))/\ziE w S:=by
 have u:=ze h;have s:=ze o;have P:=h.1;clear h o;rcases L with⟨rfl,rfl⟩|⟨g,T,rfl,W,hc,hg,n⟩
 .have N:zs=[]:=zgY (by simpa using P);subst N;go_enter func115,ntmps115;go_wp2_with fail;refine wp_loop_rounds 1 ?_;rw[rounds_succ];go_wp2_with fail;go_ret;exact⟨rfl,zf.refl _ _⟩
 have m:=ze n;clear n;go_enter func115,ntmps115;go_wp2_with fail;go_loopw[3,8] (λt i wr=>∃(j:Nat),i=M J j/\j<=xs.length/\ziE w wr/\0<=xr 0 (zs.take j)/\xr 0 (zs.take j)<=301/\t=M J (xr 0 (zs.take j))) (λ_ i _=>xs.length-(intOf i).toNat);exact⟨0,rfl,oa,zf.refl _ _,by simp[xr],by simp[xr],by simp[xr]⟩;obtain⟨j,rfl,hj,b,af,ag,rfl⟩:=hrel;by_cases F:j<xs.length
 .have c:=zgE F;have l:zs[j]?=I (zs[j]' oa):=zgE oa;have ac:=(b.cell (zgF w _ (zb m j xs[j] c)) id).trans (zb m j xs[j] c);have k:=yu.keep b (λ_ _ f=>f) f _ _ (u.2 j xs[j] (zs[j]' oa) c l);have aa:=yu.bd f _ _ k;have p:zs.take (j+1)=zs.take j++[zs[j]' oa]:=(by rw[zht,l];rfl);have x:=ze p;have v:=ze k;generalize B:zs[j]' oa=a at *;generalize z:xs[j]=X at *;clear c l p k B z;go_wp2_with(go_at_call 65;refine(zb s _ A X a v).mono ?_;rintro e w1 ⟨rfl,y⟩);have d:xr 0 (zs.take (j+1))=min (xr 0 (zs.take j)+a) 301:=(by rw[zb x,sumS_append]);exact⟨⟨j+1,by go_num,oa,b.trans y,by rw[d];omega,by rw[d];omega,by rw[d,show(if 301<xr 0 (zs.take j)+a then(301:Int) else xr 0 (zs.take j)+a)=min (xr 0 (zs.take j)+a) 301 by split<;>omega]⟩,by simp[intOf];omega⟩
 have r:H (zs.take j=zs):=(by exact zhs oa);go_wp2_with fail;go_ret;rw[zb r];exact⟨rfl,b⟩
theorem sizes_bd {f:Nat}{w:E}{A:Nat->Prop}{xs:List Y}{zs:List Int}(h:Sizes f w A xs zs):0<=xr 0 zs/\xr 0 zs<=301:=by
 refine Xq zs 0 oa oa ?_;intro y c;obtain⟨j,a⟩:=vZ c;have b:j<xs.length:=by
  by_cases d:j<zs.length;have:=h.1;omega
  grind
 exact(yu.bd f _ _ (h.2 j xs[j] y (zgE b) a)).1
theorem zdU {x y X Y:Int}(d:0<=x)(e:x<=X)(c:0<=y)(f:y<=Y):0<=x*y/\x*y<=X*Y:=by refine⟨zhu d c,?_⟩;have a:=zhr e c;have b:=Int.mul_le_mul_of_nonneg_left f (show(0:Int)<=X by omega);omega
theorem Vq (k:Vp f)(w:E)(A:Nat->Prop)(p:Value)(l m z:Int)(h:yu f w A p z)(n:0<=l)(o:l<=100)(t:-1<=m)(u:m<=100)(v:m = -1\/l<=m):Uh V 116 #[Uf #[p,M J l,M J m]] w λe s=>e=R (M J (j7 z l m))/\ziE w s:=by
 have c:=yu.bd f _ _ h;have j:=ze h;have i:=ze k;clear h k;by_cases d:m = -1
 .have g:H (j7 z l m=max l 1*z+1):=by unfold j7;rw[IN d];rfl
  have P:(if l<1 then(1:Int) else l)=max l 1:=by split<;>omega
  have N:=zdU (x:=max l 1) (y:=z) (X:=100) (Y:=301) oa oa c.1 c.2;subst d;go_enter func116,ntmps116;go_wp2_with(go_at_call 65;refine(zb i _ A p z (yu.keep ((zf.refl (λ_=>False) w).alloc _) (λ_ _ f=>f) f _ _ j)).mono ?_;rintro e b ⟨rfl,a⟩;have q:b.cell? ⟨w.heap.size,1,U⟩=I (M J l):=zg a _ _ (zm w _ rfl _ _ 1 _ rfl) id;have r:b.cell? ⟨w.heap.size,2,U⟩=I (M J (-1)):=zg a _ _ (zm w _ rfl _ _ 2 _ rfl) id);go_ret;rw[zb g];exact⟨rfl,((zf.refl _ _).alloc _).trans a⟩
 have g:H (j7 z l m=l*z+(m-l)*(z+1)):=by unfold j7;rw[iN d];rfl
 have B:(m == -1)=Z:=by simp[d]
 have F:=zdU (x:=l) (y:=z) (X:=100) (Y:=301) n o c.1 c.2;have L:=zdU (x:=m-l) (y:=z+1) (X:=100) (Y:=302) oa oa oa oa;go_enter func116,ntmps116;go_wp2_with(go_at_call 65;refine(zb i _ A p z (yu.keep ((zf.refl (λ_=>False) w).alloc _) (λ_ _ f=>f) f _ _ j)).mono ?_;rintro e b ⟨rfl,a⟩;have q:b.cell? ⟨w.heap.size,1,U⟩=I (M J l):=zg a _ _ (zm w _ rfl _ _ 1 _ rfl) id;have r:b.cell? ⟨w.heap.size,2,U⟩=I (M J m):=zg a _ _ (zm w _ rfl _ _ 2 _ rfl) id);go_ret;rw[zb g];exact⟨rfl,((zf.refl _ _).alloc _).trans a⟩
theorem yu.form {f:Nat}{w:E}{A:Nat->Prop}{v:Y}{z:Int}(h:yu f w A v z):∃T y,v=Ud T y:=by
 cases f with
 |zero=>exact h.elim
 |succ f=>
  rcases h with⟨_,T,x,_,h⟩|⟨q,_,_,h,_⟩|⟨q,_,_,h,_⟩|⟨p,l,m,_,h,_⟩;exact⟨_,_,h⟩;exact⟨_,_,h⟩;exact⟨_,_,h⟩;exact⟨_,_,h⟩
theorem zgm (d:Vp f):Vp (f+1):=by
 intro w o v z h;have al:=yu.bd _ _ _ h;rcases h with⟨rfl,T,x,hl,rfl⟩|⟨q,xs,k,rfl,a,s,c,b,n,P⟩|⟨q,xs,k,rfl,a,s,c,b,n⟩|⟨p,l,m,z',rfl,a,c,b,n,P,S,h8⟩;exact(leaf_any w T x hl).mono (by rintro e t ⟨rfl,rfl⟩;exact⟨rfl,zf.refl _ _⟩)
 .have j:=zeZ f d w o q xs k a s ⟨c,b⟩;have r:=ze j;have an:0<=xr 0 k/\xr 0 k<=301:=sizes_bd ⟨c,b⟩;obtain⟨W,X,rfl⟩:∃W X,q=K W xs.length X:=by rcases a with⟨rfl,rfl⟩|⟨g,aj,rfl,_⟩;exact⟨_,_,rfl⟩;exact⟨_,_,rfl⟩
  clear j a b d;have u:=Tryz.as50;have y:=Tryz.as51;have B:=Tryz.as52;have F:=Tryz.as53;have L:=Tryz.as54;have N:=Tryz.as55;go_enter func65,ntmps65;go_wp2_with(go_at_call 115;refine r.mono ?_;rintro e t ⟨rfl,i⟩)
  all_goals
   go_ret;exact⟨qh oa,i⟩
 .have j:=zeZ f d w o q xs k a s ⟨c,b⟩;have r:=ze j;clear j a b d;have u:=Tryz.as60;have y:=Tryz.as61;have B:=Tryz.as62;have F:=Tryz.as63;have L:=Tryz.as64;have N:=Tryz.as65;have a6:=Tryz.as66;go_enter func65,ntmps65;go_wp2_with(go_at_call 115;refine r.mono ?_;rintro e t ⟨rfl,i⟩);go_ret;rw[n];exact⟨rfl,i⟩
 obtain⟨TT,px,rfl⟩:=yu.form a;have HF:=ze d;have HS:=ze a;have hz:=yu.bd f _ _ a;have am:=Yd (z:=z') hz.1 c S;clear a d;have u:=Tryz.as70;have y:=Tryz.as71;have B:=Tryz.as72;have F:=Tryz.as73;have L:=Tryz.as74;have N:=Tryz.as75;have a6:=Tryz.as76;have a7:=Tryz.as77;go_enter func65,ntmps65;go_wp2_with(go_at_call 116;refine(Vq f HF _ o (Ud TT px) l m z' (yu.keep ((zf.refl (λ_=>False) w).alloc _) (λ_ _ f=>f) f _ _ HS) c b n P S).mono ?_;rintro e t ⟨rfl,i⟩)
 all_goals
  go_ret;exact⟨qh oa,((zf.refl _ _).alloc _).trans i⟩
theorem zcB:∀f,Vp f
 |0=>λ_ _ _ _ h=>h.elim
 |f+1=>zgm f (zcB f)
theorem Yr (w:E)(A:Nat->Prop)(v:Y)(z:Int)(h:yu f w A v z):Uh V 36 #[v] w λe c=>e=R (M J (min (z+1) 301))/\ziE w c:=by
 have d:=yu.bd _ _ _ h;have a:=ze h;clear h;go_enter func36,ntmps36;go_wp2_with(go_at_call 65;refine(zcB f _ A v z a).mono ?_;rintro e g ⟨rfl,b⟩)
 all_goals
  go_ret;exact⟨qh oa,b⟩
end
