/- The reference's patterns: their tokens in memory; Text, Ends, Find. -/
import Derived.Test.YtcgleficedipkaaGreatDoorYMatAMatK
import Derived.Test.YtcgleficedipkaaGreatDoorYSemESemI
namespace Go.Proofs.YtcgleficedipkaaGreatDoor
open Option renaming none->U,some->I
open Value renaming int->M,slice->K,bool->C,pointer->Ua,string->Uc,tuple->Ue
open IntKind renaming i64->J
open Bool renaming false->Z,true->G
open _root_.Go.Proofs.Tryz renaming prog->V
open Go renaming World->E,Value->Y,Calls->Uh
open Go.RowKit renaming Hid->H
open Or renaming inr->O,inl->Q
open Ending renaming returned->R
open Obj renaming cells->Ub
open Ref Sm Eqv
open _root_.Go.Proofs.Tryz
variable (p:Nat)(s:ByteArray)(k a:Int)(w:World){F:Nat}
section
open Go.RowKit
open Sm (Tree)
set_option maxHeartbeats 1600000
set_option maxRecDepth 100000
theorem XF {w:E}{base:Nat}:∀(l:List Pt) (c:List Y),yA w base l c->∀(j:Nat) (p:Pt),l[j]?=I p->∃v,c[j*2]?=I (C p.neg)/\c[j*2+1]?=I v/\yB w base v p.spans
 | [],_,_,j,t,a=>by simp at a
 |u :: d,b :: v :: e,h,0,t,a=>by
  simp only[zh4,Option.some.injEq] at a;subst a;obtain⟨rfl,f,_⟩:=h;exact⟨v,rfl,rfl,f⟩
 |u :: d,b :: v :: e,h,j+1,t,a=>by
  obtain⟨x,z⟩:=XF d e h.2.2 j t (by simpa using a);exact⟨x,by
   rw[show(j+1)*2=j*2+2 by omega];exact z⟩
 |_ :: _,[],h,_,_,_=>absurd h id
 |_ :: _,[_],h,_,_,_=>absurd h id
theorem Yl.of {w:E}{base:Nat}{v:Y}{l:List Pt}(h:PartsAt w base v l):Yl w v l:=by
 obtain⟨b,e,s⟩:=h;have t:=zh e;obtain⟨n,o⟩:=e;rcases o with⟨rfl,m⟩|⟨g,a,k,rfl,q,r,c,u,y,z⟩;exact Q ⟨rfl,zgY m⟩;refine O ⟨g,a,rfl,c,(t g rfl).2,?_⟩;intro j p d;obtain⟨x,N,P,i⟩:=XF l b s j p d;obtain⟨B,L,F,rfl⟩:=zr i;have S:j<l.length:=(zgG.1 d).1;have f:w.ownsRow base 336 2 (K (I ⟨g,0,U⟩) l.length a) l.length b:=⟨n,O ⟨g,a,k,rfl,q,r,c,u,y,z⟩⟩
 exact⟨B,L,F,by rw[f.cellAt _ oa];exact N,by rw[f.cellAt _ oa];exact P,y7.of i⟩
def TokSl (w:E)(v:Y)(a:List Tok):Prop:=(v=K U 0 0/\a=[])\/∃g b,v=K (I ⟨g,0,U⟩) a.length b/\a.length<=b/\qQ w g 0 a
theorem TokSl.keep {w b:E}{v:Y}{a:List Tok}(h:TokSl w v a)(k:ziE w b):TokSl b v a:=by rcases h with h|⟨g,c,d,e,f⟩;exact Q h;exact O ⟨g,c,d,e,f.only k⟩
theorem Qv {w:E}{base:Nat}:∀(l:List Tok) (b:List Y),xp w base l b->∀(j:Nat) (t:Tok),l[j]?=I t->∃v,b[j*6+2]?=I v/\PartsAt w base v t.parts
 | [],_,_,j,t,a=>by simp at a
 |u :: c,a0 :: a1 :: a2 :: a3 :: a4 :: a5 :: d,h,0,t,a=>by
  simp only[zh4,Option.some.injEq] at a;subst a;exact⟨a2,rfl,h.2.1⟩
 |u :: c,a0 :: a1 :: a2 :: a3 :: a4 :: a5 :: d,h,j+1,t,a=>by
  obtain⟨v,z⟩:=Qv c d h.2.2 j t (by simpa using a);exact⟨v,by
   rw[show(j+1)*6+2=j*6+2+6 by omega];exact z⟩
 |_ :: _,[],h,_,_,_=>absurd h id
 |_ :: _,[_],h,_,_,_=>absurd h id
 |_ :: _,[_,_],h,_,_,_=>absurd h id
 |_ :: _,[_,_,_],h,_,_,_=>absurd h id
 |_ :: _,[_,_,_,_],h,_,_,_=>absurd h id
 |_ :: _,[_,_,_,_,_],h,_,_,_=>absurd h id
theorem TokSl.of {w:E}{base:Nat}{v:Y}{l:List Tok}(h:xW w base v l):TokSl w v l:=by
 have z:=zb3 h;obtain⟨d,u,r⟩:=h;obtain⟨m,n⟩:=u;rcases n with⟨rfl,k⟩|⟨g,a,i,rfl,o,p,f,s,F,L⟩;exact Q ⟨rfl,zgY k⟩;refine O ⟨g,a,rfl,f,λj t b=>?_⟩;rcases z with⟨q,_⟩|⟨g',ad,N,_,_,B⟩;cases q;cases N;obtain⟨T,X,W,z0,z1,c,z3⟩:=B j t b;obtain⟨x,P,S⟩:=Qv l d r j t b;have af:j<l.length:=(zgG.1 b).1;have y:w.ownsRow base 308 6 (K (I ⟨g,0,U⟩) l.length a) l.length d:=⟨m,O ⟨g,a,i,rfl,o,p,f,s,F,L⟩⟩
 have e:w.cell? ⟨g,j*6+2,U⟩=I x:=(by rw[y.cellAt _ oa];exact P);rw[zg6] at c;rw[c] at e;cases e;exact⟨T,X,W,⟨z0,z1,by rw[zg6];exact c,z3⟩,Yl.of S⟩
theorem xp.base {w:E}{base base':Nat}(b:base'<=base):∀(l:List Tok) (a:List Y),xp w base l a->xp w base' l a
 | [],[],_=>trivial
 |_t :: c,_e :: _f :: _g :: _i :: _j :: _k :: d,h=>⟨h.1,h.2.1.base b,xp.base b c d h.2.2⟩
 | [],_ :: _,h=>h
 |_ :: _,[],h=>h
 |_ :: _,[_],h=>h
 |_ :: _,[_,_],h=>h
 |_ :: _,[_,_,_],h=>h
 |_ :: _,[_,_,_,_],h=>h
 |_ :: _,[_,_,_,_,_],h=>h
theorem xW.base {w:E}{base base':Nat}{v:Y}{l:List Tok}(h:xW w base v l)(b:base'<=base):xW w base' v l:=by obtain⟨a,c,d⟩:=h;exact⟨a,zZ c b,xp.base b l a d⟩
theorem W8 (z:Int)(N:s.size<=200)(r:(zF s).2<0)(u:(yG s).2.1=0)(j:∀t∈(yG s).1,kJ t)(k:Q1 (yG s).1 0 z)(F:z<300)(L:0<=z):Uh V 53 #[Uc s] w λx b=>∃g,x=R (Ue #[Ua (I ⟨g,0,U⟩),M J 0,M J 0])/\ziE w b/\w.heap.size<=g/\b.cell? ⟨g,1,U⟩=I (M J (z+1))/\∃v,b.cell? ⟨g,0,U⟩=I v/\xW b w.heap.size v (yG s).1:=by have HG:=ze (vq r);have l:=ze j;have n:=ze k;have m:=ze (YX s);clear j k;generalize o:(zF s).2=B at *;generalize p:(yG s).2.2=P at *;generalize q:(yG s).1=ts at *;go_enter func53,ntmps53;go_wp2_with(first|(go_at_call 101;refine(vg s _ oa).mono ?_;rintro e w1 ⟨v,rfl,y,c⟩;rw[o];obtain⟨S,W,T,rfl⟩:=zr y)|(go_at_call 102;refine(XX s _ oa HG).mono ?_;rintro e w2 ⟨v2,rfl,a,i⟩;rw[u,p];rw[q] at a;obtain⟨X,qn,qc,rfl⟩:=zr a.choose_spec.1;have h:=ze a;clear a)|(go_at_call 103;refine(Vc h (by have:=zb m;omega) l n).mono ?_;rintro e w3 ⟨rfl,d⟩));go_ret3;exact⟨_,rfl,((c.trans i).trans d).alloc _,((c.trans i).trans d).size,zm _ _ rfl _ _ 1 _ rfl,_,zm _ _ rfl _ _ 0 _ rfl,(h.base (by have:=c.size;omega)).keep (d.alloc _) (λ_ _ _ f=>f)⟩
theorem W9:∀f,zbo f/\ThrOK f
 |0=>⟨zbp,zbr 0 zbp⟩
 |f+1=>⟨zbq f (W9 f).2,zbr (f+1) (zbq f (W9 f).2)⟩
theorem thr_nil {f F:Nat}{kids:List Tree}{l g:Y}{c:List (Int×Int)}{xs:List Bool}{w:E}(m:wK (qL f) [] kids)(a:Ctx w l g c xs):Uh V 111 #[K U 0 0,l,g] w (YH w xs (altR c F kids)):=by
 obtain⟨b,L,rfl,d,o⟩:=m.open;obtain⟨q,rfl⟩:=o.nil;have T:xs.length<=901:=by have:=a.hx;have:=a.hl;omega
 have S:=qP xs.length oa;have x:H (yE (w.alloc (Ub (madeCells #[C Z] xs.length) 4)) (K (I ⟨w.heap.size,0,U⟩) xs.length xs.length) (List.replicate xs.length Z)):=by have:=(kY.made w xs.length).row ov (cap:=xs.length) ov;exact ze (by simpa using this)
 have k:H (ziE w (w.alloc (Ub (madeCells #[C Z] xs.length) 4))):=(zf.refl _ _).alloc _;have s:H (yE (w.alloc (Ub (madeCells #[C Z] xs.length) 4)) g xs):=a.f.keep k;obtain⟨P,N,rfl,_⟩:=a.f;have v:H (∀i j,(False\/i=j)↔altR c F [b] i j):=λi j=>by
  have e:MM c (F+1) b i j↔kN (MM c F) b.kids i j:=by show Sm.M _ _ (F+1) b i j↔_;unfold Sm.M;rw[iN (by rw[d];decide),iN (by rw[d];decide),IN d];rfl
  rw[q] at e;constructor;rintro(h|h);exact h.elim;exact⟨b,ov,e.2 h⟩;rintro⟨t,r,z⟩;simp at r;subst r;exact O (e.1 z)
 clear a m d o q;go_enter func111,ntmps111;go_wp2_with fail;refine wp_loop_rounds 1 ?_;rw[rounds_succ];go_wp2_with(go_at_call 154;refine(wt _ _ _ xs _ x s ov ou).mono ?_;rintro e W ⟨B,rfl,p,n⟩;have u:=ze p;have y:=ze n;clear p n);go_ret;exact⟨B,_,rfl,u,((Img.none xs).or (Img.id xs)).congr v,k.trans y⟩
theorem zbs {kids:List Tree}{a:List Tok}{v b c:Y}{d:List (Int×Int)}{xs:List Bool}{w:E}(e:wK (qL 22) a kids)(j:∀t∈a,kJ t)(m:a.length<=1000)(h:TokSl w v a)(f:Ctx w b c d xs):Uh V 111 #[v,b,c] w (YH w xs (altR d 67 kids)):=by rcases h with⟨rfl,rfl⟩|⟨g,i,rfl,l,k⟩;exact thr_nil e f;exact(W9 22).2 67 g 0 i a kids b c d xs w oa e j k m l f
namespace Ref
theorem KE (s:ByteArray):∀(f p:Nat) (acc:List (Int×Int)),acc.length<=p->p<=s.size->(xV s f p acc).1.length<=s.size
 |0,p,acc,h,b=>by simp only[xV];omega
 |f+1,p,acc,h,b=>by
  by_cases a:p<s.size
  .cases ho:xo s p with
   |none=>rw[qU a ho];show acc.length<=_;omega
   |some d=>
    obtain⟨n,c⟩:=d;rw[qo a ho];have:=qr ho;exact KE s f (p+n) _ ou oa
  rw[jR a];show acc.length<=_;omega
theorem KG:(zF s).1.length<=s.size:=KE s _ 0 [] ov oa
end Ref
theorem V4 (b:400<s.size):Uh V 110 #[Uc s] w λx a=>x=R (Ue #[K U 0 0,M J 2,M J 400])/\ziE w a:=by go_enter func110,ntmps110;go_wp2_with fail;go_ret3;exact⟨rfl,zf.refl _ _⟩
theorem zbt (g:s.size<=400)(i:0<=(zF s).2):Uh V 110 #[Uc s] w λx h=>x=R (Ue #[K U 0 0,M J 1,M J (zF s).2])/\ziE w h:=by have d:=ze (vg s w g);generalize (zF s).2=b at *;go_enter func110,ntmps110;go_wp2_with(go_at_call 101;refine d.mono ?_;rintro e m ⟨v,rfl,c,a⟩;obtain⟨j,l,k,rfl⟩:=zr c;have f:=ze a;clear c a);go_ret3;exact⟨rfl,f⟩
theorem zek (l:s.size<=400)(m:(zF s).2<0):Uh V 110 #[Uc s] w λx h=>∃a c,x=R (Ue #[K a (zF s).1.length c,M J 0,M J 0])/\y7 h (K a (zF s).1.length c) (zF s).1/\ziE w h:=by have i:=ze (vg s w l);generalize (zF s).2=b at *;go_enter func110,ntmps110;go_wp2_with(go_at_call 101;refine i.mono ?_;rintro e n ⟨v,rfl,g,f⟩;have d:=y7.of g;obtain⟨a,c,rfl⟩:=d.len;have k:=ze d;have j:=ze f;clear g f d);go_ret3;exact⟨a,c,rfl,k,j⟩
structure PatR (w:E)(p:Nat)(ts:List Tok)(kids:List Tree):Prop where
 c0:∃pa pc,w.cell? ⟨p,0,U⟩=I (K pa ts.length pc)/\TokSl w (K pa ts.length pc) ts
 toks:wK (qL 22) ts kids
 tb:∀t∈ts,kJ t
 len:ts.length<=1000
def yI (a:List Nat):List Y:=a.map λ(j:Nat)=>M J (j:Int)
theorem Tryz.infoInt:(prog.info? 3).map (λi=>(i.zero,i.size,i.bytes))=I (I (M J 0),1,8):=om
set_option maxHeartbeats 4000000
theorem rends_text (i k a:Int)(w:E)(d:k≠0)(c:Uh V 110 #[Uc s] w λx b=>x=R (Ue #[K U 0 0,M J k,M J a])/\ziE w b):Uh V 58 #[Ua (I ⟨p,0,U⟩),Uc s,M J i] w λx b=>x=R (Ue #[K U 0 0,M J k,M J a])/\ziE w b:=by
 have f:=ze c;have h:(k != 0)=G:=by simp[d]
 clear c d;go_enter func58,ntmps58;go_wp2_with(go_at_call 110;refine f.mono ?_;rintro e j ⟨rfl,g⟩);go_ret3;exact⟨rfl,g⟩
theorem KH (d:k≠0)(c:Uh V 110 #[Uc s] w λx b=>x=R (Ue #[K U 0 0,M J k,M J a])/\ziE w b):Uh V 57 #[Ua (I ⟨p,0,U⟩),Uc s] w λx b=>x=R (Ue #[C Z,M J k,M J a])/\ziE w b:=by
 have f:=ze c;have h:(k != 0)=G:=by simp[d]
 clear c d;go_enter func57,ntmps57;go_wp2_with(go_at_call 110;refine f.mono ?_;rintro e i ⟨rfl,g⟩);go_ret3;exact⟨rfl,g⟩
theorem rfind_ok (ts:List Tok)(kids:List Tree)(w:E)(F:PatR w p ts kids)(hs:s.size<=400)(hc:(zF s).2<0):Uh V 57 #[Ua (I ⟨p,0,U⟩),Uc s] w λx w'=>∃b:Bool,x=R (Ue #[C b,M J 0,M J 0])/\(b=G↔∃i j,i<=(zF s).1.length/\j<=(zF s).1.length/\altR (zF s).1 67 kids i j)/\ziE w w':=by
 have HT:=ze (zek s w hs hc);have aQ:(zF s).1.length<=400:=zgN (KG s) hs;obtain⟨qa,qc,ak,al⟩:=F.c0;have v:=ze F;have HQ:=ze al;have aA:=ze ak;clear F hc al ak;generalize (zF s).1=a at *;have ai:=qP (a.length+1) oa;simp only[zhX,ziz] at ai;go_enter func57,ntmps57;go_wp2_with(go_at_call 110;refine HT.mono ?_;rintro e d ⟨pa,pc,rfl,aj,ac⟩;have ay:=ze aj;have av:=ze ac;clear aj ac);clear ai;have HM:=ze (kY.made d (a.length+1));have aw:H (ziE d (d.alloc (Ub (madeCells #[C Z] (a.length+1)) 4))):=(zf.refl _ _).alloc _;have aR:d.heap.size<(d.alloc (Ub (madeCells #[C Z] (a.length+1)) 4)).heap.size:=ov
 generalize d.alloc (Ub (madeCells #[C Z] (a.length+1)) 4)=W at *;go_loopw[11] (λk wr=>∃n:Nat,k=M J n/\n<=a.length+1/\H (zf (λg=>g=d.heap.size) W wr)/\H (kY wr d.heap.size (List.replicate n G++List.replicate (a.length+1-n) Z))) (λk _=>a.length+1-(intOf k).toNat);exact⟨0,rfl,oa,zf.refl _ _,by simpa using HM⟩;obtain⟨n,rfl,hn,u,r⟩:=hrel;by_cases L:n<a.length+1
 ·(have N:=zb r;have q:(List.replicate n G++List.replicate (a.length+1-n) Z)[n]?=I Z:=(by grind);have c1:=N.c n Z q;have f1:=N.f n Z q;have aG:H ((List.replicate n G++List.replicate (a.length+1-n) Z).set n G=List.replicate (n+1) G++List.replicate (a.length+1-(n+1)) Z):=by show _=_;rw[ziv _ _ ov,List.length_replicate,zhV,show a.length+1-n=(a.length+1-(n+1))+1 by omega,List.replicate_succ,zig];simp);clear N q;go_wp2_with fail;exact⟨⟨n+1,by go_num,oa,u.setCell (Q rfl) _,by rw[<-zb aG];exact r.set n G⟩,by simp[intOf];omega⟩
 (obtain rfl:n=a.length+1:=oa;have z:ziE d wr:=aw.laterB u (λg q=>oa);have B:ziE w wr:=av.trans z;have aN:=zg B _ _ aA id;have am:yE wr (K (I ⟨d.heap.size,0,U⟩) (a.length+1) (a.length+1)) (List.replicate (a.length+1) G):=by have:=r.row (by have:=u.size;omega) (cap:=a.length+1) ov;simpa using this);have HR:=ze am;have ax:=ze z;have T:=ze B;clear am z B;go_wp2_with(go_at_call 111;refine(zbs v.toks v.tb v.len (HQ.keep T) ⟨ay.keep ax,HR,oa,ov⟩).mono ?_;rintro e w2 ⟨aX,c,rfl,ae,ah,ad⟩;have aq:=ze ae;have t:=ze ah;have X:=ze (T.trans ad);clear ae ah ad);have ap:c.length=a.length+1:=(by have:=t.1;simpa using this);have aK:=ze ap;have aS:c.length<=401:=oa;clear ap;obtain⟨gy,cy,rfl,aO,aP,ao⟩:=(zb aq)
 (have aD:=ze ao;clear ao;have P:H ((∃j:Nat,c[j]?=I G)↔∃i j,i<=a.length/\j<=a.length/\altR a 67 kids i j):=by constructor;rintro⟨j,m⟩;obtain⟨h1,i,h2,y⟩:=(t.2 j).1 m;have:=(zgG.1 h2).1;simp at h1 this;exact⟨i,j,oa,oa,y⟩;rintro⟨i,j,h1,h2,y⟩;exact⟨j,(t.2 j).2 ⟨by simp;omega,i,by rw[zhx,IN oa],y⟩⟩);go_loopw[13] (λk wr=>∃n:Nat,k=M J n/\n<=c.length/\H (ziE w2 wr)/\H (∀j:Nat,j<n->¬c[j]?=I G)) (λk _=>c.length-(intOf k).toNat);exact⟨0,rfl,oa,zf.refl _ _,λj m=>oa⟩;obtain⟨n,rfl,hn,o,S⟩:=hrel;by_cases L:n<c.length
 .have ag:=zg o _ _ (zb aD n c[n] (zgE L)) id;have l:c[n]?=I c[n]:=zgE L;cases hb:c[n]
  ·(rw[hb] at ag l;have au:H (∀j:Nat,j<n+1->¬c[j]?=I G):=λj m e=>by by_cases ej:j=n;subst ej;rw[l] at e;cases e;exact zb S j oa e);clear hb l;go_wp2_with fail;exact⟨⟨n+1,by go_num,oa,o,au⟩,by simp[intOf];omega⟩
  rw[hb] at ag l;have HG:=ze l;clear hb l;go_wp2_with fail;go_ret3;exact⟨G,rfl,⟨λ_=>P.1 ⟨n,HG⟩,λ_=>rfl⟩,X.trans o⟩
 go_wp2_with fail;go_ret3;refine⟨Z,rfl,⟨λh=>(by cases h),λh=>?_⟩,X.trans o⟩;obtain⟨j,m⟩:=P.2 h;exact absurd m (zb S j (by have:=(zgG.1 m).1;omega))
end
section
open Sm (Tree)
namespace Eqv
theorem KJ {A:List Tok->Tree->Prop}{Q:Tree->Prop}(h:∀a t,A a t->Q t):∀(d:List Tok) (l:List Tree),TokS A d l->∀t∈l,Q t
 |_,[],_,t,c=>by cases c
 |d,x :: r,g,t,c=>by
  obtain⟨a,b,_,e,f⟩:=g;rcases zhh.1 c with rfl|c;exact h a t e;exact KJ h b r f t c
theorem zbu {A:List Tok->Tree->Prop}:∀(d:List Tok) (l:List Tree),TokP A d l->∀t∈l,t.kind=6/\∃a,TokS A a t.kids
 |_,[],_,t,c=>by cases c
 |d,x :: r,h,t,c=>by
  obtain⟨a,b,bar,_,_,e,f,g⟩:=h;rcases zhh.1 c with rfl|c;exact⟨e,a,f⟩;exact zbu b r g t c
theorem zbv {A:List Tok->Tree->Prop}{d:List Tok}{l:List Tree}(h:wK A d l):l≠[]/\∀t∈l,t.kind=6/\∃a,TokS A a t.kids:=by
 obtain⟨j,fin,g,i,_,rfl,c,e,f⟩:=h;refine⟨ov,λt b=>?_⟩;rcases zgU.1 b with b|b;exact zbu _ _ c t b
 grind
end Eqv
theorem zdv:∀(f F:Nat) (l:List Tok) (T:Tree),qL f l T->WF F T->WF (3*f+1) T
 |0,_,_,_,h,_=>h.elim
 |_+1,0,_,_,_,h=>h.elim
 |f+1,F+1,l,T,h,g=>by
  rw[show 3*(f+1)+1=(3*f+3)+1 by omega];have leaf:T.kind<=4->WF ((3*f+3)+1) T:=λz=>⟨λe=>oa,λe=>oa,λe=>oa⟩
  rcases h with⟨d,_⟩|⟨t,_,_,d⟩|⟨d,o,c,m,_,_,_,_,r⟩|⟨d,m,q,_,_,_,_,_,s⟩;exact leaf oa;exact leaf d.1.2
  .obtain⟨n,p⟩:=zbv r;refine⟨λ_=>n,λ_ t i=>?_,λe=>oa⟩;obtain⟨x,a,y⟩:=p t i;have k:=g.2.1 (.inl d) t i;show WF ((3*f+2)+1) t;refine⟨λe=>oa,λ_ u j=>?_,λe=>oa⟩;cases F with
   |zero=>exact k.elim
   |succ F=>
    have w:=k.2.1 (O x) u j;obtain⟨b,v⟩:=KJ (Q:=λt=>∃b,qL f b t) (λa t h=>⟨a,h⟩) a t.kids y u j;exact WF.up (zdv f F b u v w) oa
  refine⟨λe=>oa,λe=>oa,λ_=>⟨?_,(g.2.2 d).2⟩⟩;exact WF.up (zdv f F m T.kid s (g.2.2 d).1) oa
theorem tokC_wf {o:List Tok}{T:Tree}(h:wK (qL 22) o T.kids)(k:T.kind=5)(f:WF F T):WF 69 T:=by
 obtain⟨i,j⟩:=zbv h;cases F with
 |zero=>exact f.elim
 |succ F=>
  refine⟨λ_=>i,λ_ t c=>?_,λe=>oa⟩;obtain⟨m,a,n⟩:=j t c;have g:=f.2.1 (.inl k) t c;show WF (67+1) t;refine⟨λe=>oa,λ_ u d=>?_,λe=>oa⟩;cases F with
  |zero=>exact g.elim
  |succ F=>
   obtain⟨b,l⟩:=KJ (Q:=λt=>∃b,qL 22 b t) (λa t h=>⟨a,h⟩) a t.kids n u d;exact zdv 22 F b u l (g.2.1 (O m) u d)
theorem zbw {c:List Tok}{T:Tree}(h:wK (qL 22) c T.kids)(b:T.kind=5)(a:WF F T)(l:List (Int×Int))(i j:Nat):Sm.Goes (lfT l) (ahT l) (prg F T).2 (prg F T).1 i 0 j↔altR l 67 T.kids i j:=by rw[ze3 a];have e:=M_any (lf:=lfT l) (ah:=ahT l) a (tokC_wf h b a) i j;rw[<-e];show(if T.kind=0 then _ else if T.kind=5 then ∃t∈T.kids,Sm.M (lfT l) (ahT l) 68 t i j else _)↔_;rw[iN oa,IN b];exact Iff.rfl
end
