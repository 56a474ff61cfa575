/- The letters beside the lexer's characters: where a text stops being one. -/
import Derived.LaidEql
import Derived.Stop.Asserts
import Derived.RowKitTokens
import Derived.Test.YtcgleficedipkaaGreatDoorYPrgEPrgH
namespace Go.Proofs.YtcgleficedipkaaGreatDoor
open Option renaming none->U,some->I
open Value renaming int->M,slice->K,bool->C,pointer->Ua,string->Uc,iface->Ud,tuple->Ue,agg->Uf,nilIface->Ui
open IntKind renaming i64->J,i32->Ug
open Bool renaming false->Z,true->G
open _root_.Go.Proofs.Tryz renaming prog->V
open Go renaming World->E,Value->Y,Calls->Uh
open Go.RowKit renaming Hid->H
open Or renaming inr->O,inl->Q
open Ending renaming returned->R
open Obj renaming cells->Ub
open Go.Instr renaming typeAssert->Uk
open Pro Ref Sm Cs Prg Eqv
open _root_.Go.Proofs.Tryz
variable (g:Nat)(s:ByteArray)(h v:Value){b:Nat}{L:List (Int×Int)}(j:TypeId){T:Int}(a e t p:Addr)(f:Value)(c:Int)(w W:World)
section
open Go.RowKit
namespace Eqv
theorem VS (s:ByteArray):∀(f p:Nat) (acc:List (Int×Int)),s.size<p+f->p<=s.size->
  ((xV s f p acc).2 = -1/\(zV s f p).foldl (λ_ x=>x.1+jf x.2) (p:Int)=s.size)\/
  (∃q:Nat,(xV s f p acc).2=q/\q<s.size/\(zV s f p).foldl (λ_ x=>x.1+jf x.2) (p:Int)=q)
 |0,p,acc,h,c=>oa
 |f+1,p,acc,h,c=>by
  by_cases a:p<s.size
  .have b:=Zy a;cases h1:xo s p with
   |none=>
    rw[h1] at b;right;refine⟨p,by rw[qU a h1],a,?_⟩;simp only[zV];rw[b];rfl
   |some g=>
    obtain⟨m,d⟩:=g;rw[h1] at b;have i:=Ref.qr h1;have e:zV s (f+1) p=((p:Int),d) :: zV s f (p+m):=by
     simp only[zV];rw[b];rfl
    rw[e,qo a h1,List.foldl_cons];have:=VS s f (p+m) (acc++[(d,(p:Int))]) oa oa;rw[show(p:Int)+jf d=((p+m:Nat):Int) by rw[one_len h1];omega];exact this
  .left;rw[jR a];refine⟨rfl,?_⟩;simp only[zV];rw[show qd s p=U by unfold qd;rw[iN a]];show(p:Int)=s.size;omega
theorem Kt:((zF s).2 = -1/\wd (zV s (s.size+1) 0)=s.size)\/(0<=(zF s).2/\wd (zV s (s.size+1) 0)=(zF s).2/\wd (zV s (s.size+1) 0)<s.size):=by rcases VS s (s.size+1) 0 [] oa oa with⟨a,b⟩|⟨q,a,b,d⟩;exact Q ⟨a,b⟩;right;have e:wd (zV s (s.size+1) 0)=q:=d;have c:(zF s).2=q:=a;rw[e,c];exact⟨oa,rfl,oa⟩
end Eqv
set_option maxHeartbeats 800000
theorem VT:∀(L:List (Int×Int)) (j:Nat) (p:Int×Int),L[j]?=I p->(xM L)[j*2]?=I (M J p.1)/\(xM L)[j*2+1]?=I (M Ug p.2)
 | [],j,p,h=>by simp at h
 |(x,y) :: r,0,p,h=>by
  simp only[zh4,Option.some.injEq] at h;subst h;exact⟨rfl,rfl⟩
 |(x,y) :: r,j+1,p,h=>by
  have:=VT r j p (by simpa using h);rw[show(j+1)*2=j*2+2 by omega];exact this
theorem zeb {w:E}{base:Nat}{v:Y}{L:List (Int×Int)}(h:w.ownsRow base 184 2 v L.length (xM L)):(v=K U 0 0/\L=[])\/∃g cap,v=K (I ⟨g,0,U⟩) L.length cap/\L.length<=cap/\g<w.heap.size/\LetRow w g L:=by
 have a:=h;obtain⟨m,d⟩:=h;rcases d with⟨rfl,l⟩|⟨g,cap,k,rfl,n,f,e,q,r,s⟩
 grind
 refine O ⟨g,cap,rfl,e,(zgM.1 f).1,?_⟩;intro j p i;have o:j<L.length:=by grind
 obtain⟨b,c⟩:=VT L j p i;exact⟨(a.cellAt _ oa).trans b,(a.cellAt _ oa).trans c⟩
theorem YD (f p:Nat):Pro.Fit (zV s f p):=by
 intro k;unfold zj;cases h:(zV s f p)[k]? with
 |none=>simp
 |some x=>
  have:=JY s f p x (zgS h);simp only[];omega
theorem WS {w:E}{base:Nat}{v:Y}{L:List (Int×Int)}{T:Int}(h:w.ownsRow base 184 2 v L.length (xM L)):yh (w.alloc (Ub #[v,M J 0,M J T,M J 0] 150)) w.heap.size L 0 T 0:=by refine⟨?_,zm w _ rfl _ _ 1 _ rfl,zm w _ rfl _ _ 2 _ rfl,zm w _ rfl _ _ 3 _ rfl,zu w _ rfl _ _ 1,zu w _ rfl _ _ 3⟩;rcases zeb h with⟨rfl,rfl⟩|⟨g,a,rfl,b,c,d⟩;simp_all;exact Q ⟨g,a,zm w _ rfl _ _ 0 _ rfl,b,c,d.keep ((zf.refl (λ_=>False) w).alloc _) id⟩
theorem wo (i:(s.size:Int)<=c)(j:s.size<=400)(w:E)(a:Nat->Addr)(h:yt w a)(k:11<=w.heap.size)(m:(zF s).2<0):Uh V 39 #[Uc s,M J c] w λx b=>∃v,x=R (Ue #[v,Ui])/\b.ownsRow (w.heap.size+3) 184 2 v (zV s (s.size+1) 0).length (xM (zV s (s.size+1) 0))/\ziE w b:=by refine(Jt s c i j w _ _ h.s1 k).mono ?_;rintro e b ⟨g,⟨_,v,d,f⟩|⟨l,_⟩⟩;exact⟨v,d,f,g⟩;rcases Kt s with⟨_,f⟩|⟨d,_,_⟩;omega;omega
theorem Ku (j:(s.size:Int)<=c)(k:s.size<=400)(w:E)(a:Nat->Addr)(i:yt w a)(l:11<=w.heap.size)(n:0<=(zF s).2):Uh V 39 #[Uc s,M J c] w λx f=>∃v,x=R (Ue #[K U 0 0,v])/\zN f w.heap.size v (yj a 1) (zF s).2/\ziE w f:=by refine(Jt s c j k w _ _ i.s1 l).mono ?_;rintro e f ⟨h,⟨m,_⟩|⟨_,v,g,b⟩⟩;rcases Kt s with⟨b,_⟩|⟨_,b,d⟩;omega;omega;rcases Kt s with⟨d,_⟩|⟨_,d,_⟩;omega;rw[d] at b;exact⟨v,g,b,h⟩
theorem Ql (i:c<(s.size:Int))(w:E)(a:Nat->Addr)(f:yt w a):Uh V 39 #[Uc s,M J c] w λx b=>∃v,x=R (Ue #[K U 0 0,v])/\zN b w.heap.size v (yj a 2) c/\ziE w b:=by have h:=f.s2;unfold yj at h ⊢;go_enter func39,ntmps39;go_wp2_with(go_at_call 45;refine(jg _ _ _ _).mono ?_;rintro e j ⟨v,rfl,g,d⟩);go_ret2;exact⟨v,rfl,g,d⟩
theorem WT (a:Nat->Addr)(b:yt w a)(l:200<s.size):Uh V 35 #[Uc s] w λx d=>∃v,x=R (Ue #[Ui,v])/\zN d w.heap.size v (yj a 2) 200/\ziE w d:=by have f:=ze b;clear b;go_enter func35,ntmps35;go_wp2_with(go_at_call 39;refine(Ql s 200 oa _ a f).mono ?_;rintro e m ⟨v,rfl,c,j⟩;have h:=ze c;obtain⟨g,k,rfl,i,f1⟩:=c;clear i f1);go_ret2;exact⟨_,rfl,h,j⟩
theorem WU (a:Nat->Addr)(b:yt w a)(m:11<=w.heap.size)(o:s.size<=200)(c:0<=(zF s).2):Uh V 35 #[Uc s] w λx f=>∃v,x=R (Ue #[Ui,v])/\zN f w.heap.size v (yj a 1) (zF s).2/\ziE w f:=by have i:=ze b;have h:=ze c;clear b c;go_enter func35,ntmps35;go_wp2_with(go_at_call 39;refine(Ku s 200 oa oa _ a i m h).mono ?_;rintro e p ⟨v,rfl,d,l⟩;have j:=ze d;obtain⟨g,n,rfl,k,f1⟩:=d;clear k f1);go_ret2;exact⟨_,rfl,j,l⟩
open Sm (Tree yJ)
set_option maxHeartbeats 2000000
set_option maxRecDepth 1000000
theorem alt_bad {a:Nat->Addr}{w:E}(h:yh w b L 0 T 0)(j:yt w a)(l:11<=b)(g:L.length<=400)(f:Pro.Fit L)(o:0<=L.length)(m:(yR L T (zD L T 10) 0).k≠0):Uh V 62 #[Ua (I ⟨b,0,U⟩)] w λx c=>∃v,x=R (Ue #[Ui,v])/\zN c w.heap.size v (yj a (yR L T (zD L T 10) 0).k) (yR L T (zD L T 10) 0).p/\zf (zt b) w c:=by refine(kH b L 0 T a w h j l g oa f).mono ?_;rintro e c ⟨i,q,⟨d,_⟩|⟨_,v,rfl,n⟩⟩;exact absurd d m;exact⟨v,rfl,n,i⟩
theorem alt_ok {a:Nat->Addr}{w:E}(h:yh w b L 0 T 0)(q:yt w a)(r:11<=b)(m:L.length<=400)(l:Pro.Fit L)(f:0<=L.length)(i:(yR L T (zD L T 10) 0).k=0):Uh V 62 #[Ua (I ⟨b,0,U⟩)] w λx d=>∃c y F,x=R (Ue #[Ud c y,Ui])/\yu F d (λg=>w.heap.size<=g) (Ud c y) (yR L T (zD L T 10) 0).v/\yh d b L (yR L T (zD L T 10) 0).n T 0/\zf (zt b) w d:=by refine(kH b L 0 T a w h q r m f l).mono ?_;intro e d s;obtain⟨c,y,F,rfl,j,o,p⟩:=jv s i;exact⟨c,y,F,rfl,by rw[<-(zcA 10 0 f i).at j.wf];exact j.size,p,o⟩
theorem za2 (a:Nat->Addr)(j:yt w a)(B:11<=w.heap.size)(S:s.size<=200)(u:(zF s).2<0)(L:List (Int×Int))(c:zV s (s.size+1) 0=L)(o:Pro.Out)(k:yR L s.size (zD L s.size 10) 0=o)(z:o.k≠0):Uh V 35 #[Uc s] w λx l=>∃v,x=R (Ue #[Ui,v])/\zN l w.heap.size v (yj a o.k) o.p/\ziE w l:=by
 have n:H (L.length<=400):=by have:=we s (s.size+1) 0;rw[c] at this;show _<=_;omega
 have m:H (Pro.Fit L):=by rw[<-c];exact YD s _ _
 have h:=ze j;have N:=ze k;have F:=ze c;subst k;subst c;clear j;go_enter func35,ntmps35;go_wp2_with(first|(go_at_call 39;refine(wo s 200 oa oa _ a h B u).mono ?_;rintro e w1 ⟨v,rfl,b,d⟩;have p:=ze b;obtain⟨W,pn,X,rfl⟩:=zr b;clear b;have T:=d.size)|(go_at_call 62;refine(alt_bad (WS p) (h.keep (d.alloc _) (λ_ _ f=>f)) oa n m oa z).mono ?_;rintro e w2 ⟨v,rfl,b,t⟩;have q:=ze b;obtain⟨g,P,rfl,r,f1⟩:=b;clear r f1));go_ret2;exact⟨_,rfl,q.base ou,(d.alloc _).later t (λi y=>by unfold zt at y;omega)⟩
theorem WV (a:Nat->Addr)(q:yt w a)(hw:11<=w.heap.size)(hs:s.size<=200)(P:(zF s).2<0)(L:List (Int×Int))(d:zV s (s.size+1) 0=L)(o:Pro.Out)(r:yR L s.size (zD L s.size 10) 0=o)(W:o.k=0)(hn:o.n≠L.length):Uh V 35 #[Uc s] w λx t=>∃v,x=R (Ue #[Ui,v])/\zN t w.heap.size v (yj a 3) (zC L s.size o.n)/\ziE w t:=by
 have l:H (L.length<=400):=by have:=we s (s.size+1) 0;rw[d] at this;show _<=_;omega
 have z:H (Pro.Fit L):=by rw[<-d];exact YD s _ _
 have h:=ze q;have HO:=ze r;have HE:=ze d;subst r;subst d;clear q;have S:=Yf (L:=zV s (s.size+1) 0) (T:=( s.size:Int)) (D:=zD (zV s (s.size+1) 0) ( s.size:Int) 10) (qI 10) 0 oa;have ah:(((yR (zV s (s.size+1) 0) ( s.size:Int) (zD (zV s (s.size+1) 0) ( s.size:Int) 10) 0).n:Int) == ((zV s (s.size+1) 0).length:Int))=Z:=by simp;omega
 go_enter func35,ntmps35;go_wp2_with(first|(go_at_call 39;refine(wo s 200 oa oa _ a h hw P).mono ?_;rintro e u ⟨v,rfl,c,g⟩;have B:=ze c;obtain⟨pa,pn,pc,rfl⟩:=zr c;clear c;have aj:=g.size)|(go_at_call 62;refine(alt_ok (WS B) (h.keep (g.alloc _) (λ_ _ f=>f)) oa l z oa W).mono ?_;rintro e w2 ⟨b,y,F,rfl,c,p,j⟩;have af:=ze c;have m:=ze p;clear c p;have ab:=j.size;simp only[zhU] at ab)|(go_at_call 63;refine(vd u.heap.size _ _ _ _ _ m).mono ?_;rintro e wq ⟨rfl,q1,rfl⟩)|(go_at_call 64;refine(vx u.heap.size _ _ _ _ a _ (m.drewN _) (yt.drewN (h.keep ((g.alloc _).later j (λi k=>by unfold zt at k;omega)) (λ_ _ f=>f)) _) l S.2.1).mono ?_;rintro e w3 ⟨v3,rfl,X,N⟩));go_ret2;exact⟨v3,rfl,X.base ou,((g.alloc _).later j (λi k=>by unfold zt at k;omega)).trans (zf.undrewN N)⟩
theorem za3 (a:Nat->Addr)(r:yt w a)(hw:11<=w.heap.size)(hs:s.size<=200)(X:(zF s).2<0)(L:List (Int×Int))(g:zV s (s.size+1) 0=L)(o:Pro.Out)(j:yR L s.size (zD L s.size 10) 0=o)(u:o.k=0)(hn:o.n=L.length)(c:300<=o.v):Uh V 35 #[Uc s] w λx d=>∃v,x=R (Ue #[Ui,v])/\zN d w.heap.size v (yj a 8) 0/\ziE w d:=by
 have B:H (L.length<=400):=by have:=we s (s.size+1) 0;rw[g] at this;show _<=_;omega
 have z:H (Pro.Fit L):=by rw[<-g];exact YD s _ _
 have k:=ze r;have HO:=ze j;have HE:=ze g;subst j;subst g;clear r;have aa:=Yf (L:=zV s (s.size+1) 0) (T:=( s.size:Int)) (D:=zD (zV s (s.size+1) 0) ( s.size:Int) 10) (qI 10) 0 oa;have an:(((yR (zV s (s.size+1) 0) ( s.size:Int) (zD (zV s (s.size+1) 0) ( s.size:Int) 10) 0).n:Int) == ((zV s (s.size+1) 0).length:Int))=G:=by simp;omega
 have al:=aa.2.2 u;have t:∀d,ziE w d->d.cell? ⟨7,0,U⟩=I (yj a 8):=λd j=>(k.keep j (λ_ _ f=>f)).s8;unfold yj at t ⊢;go_enter func35,ntmps35;go_wp2_with(first|(go_at_call 39;refine(wo s 200 oa oa _ a k hw X).mono ?_;rintro e w1 ⟨v,rfl,c,h⟩;have P:=ze c;obtain⟨pa,pn,pc,rfl⟩:=zr c;clear c;have ap:=h.size)|(go_at_call 62;refine(alt_ok (WS P) (k.keep (h.alloc _) (λ_ _ f=>f)) oa B z oa u).mono ?_;rintro e w2 ⟨b,y,F,rfl,c,q,l⟩;have S:=ze c;have N:=ze q;clear c q;have ad:=l.size;simp only[zhU] at ad)|(go_at_call 63;refine(vd w1.heap.size _ _ _ _ _ N).mono ?_;rintro e wq ⟨rfl,q1,rfl⟩)|(go_at_call 36;refine(Yr F _ _ _ _ (yu.drewN S _)).mono ?_;rintro e w3 ⟨rfl,m⟩);have s8:=t w3 (((h.alloc _).later l (λi p=>by unfold zt at p;omega)).trans (zf.undrewN m));have ae:=m.size|(go_at_call 45;refine(jg _ _ _ _).mono ?_;rintro e w4 ⟨v4,rfl,ab,W⟩));go_ret2;exact⟨v4,rfl,ab.base (by simp at ae;omega),(((h.alloc _).later l (λi p=>by unfold zt at p;omega)).trans (zf.undrewN m)).trans W⟩
theorem alt_okT {a:Nat->Addr}{w:E}(h:yh w b L 0 T 0)(q:yt w a)(r:11<=b)(m:L.length<=400)(l:Pro.Fit L)(f:0<=L.length)(i:(yR L T (zD L T 10) 0).k=0):Uh V 62 #[Ua (I ⟨b,0,U⟩)] w λx d=>∃c y F,x=R (Ue #[Ud c y,Ui])/\zG F d (λg=>w.heap.size<=g) (Ud c y) (wG L T (zD L T 10) (qC L T 10) 0)/\yJ F (wG L T (zD L T 10) (qC L T 10) 0)=(yR L T (zD L T 10) 0).v/\yh d b L (yR L T (zD L T 10) 0).n T 0/\zf (zt b) w d:=by refine(kH b L 0 T a w h q r m f l).mono ?_;intro e d s;obtain⟨c,y,F,rfl,j,o,p⟩:=jv s i;exact⟨c,y,F,rfl,j,(zcA 10 0 f i).at j.wf,p,o⟩
theorem za4 (a:Nat->Addr)(r:yt w a)(hw:11<=w.heap.size)(hs:s.size<=200)(hc:(zF s).2<0)(L:List (Int×Int))(d:zV s (s.size+1) 0=L)(o:Pro.Out)(u:yR L s.size (zD L s.size 10) 0=o)(t:o.k=0)(hn:o.n=L.length)(c:o.v<300):Uh V 35 #[Uc s] w λx z=>(∃b y F,x=R (Ue #[Ud b y,Ui])/\zG F z (λg=>w.heap.size<=g) (Ud b y) (wG L s.size (zD L s.size 10) (qC L s.size 10) 0)/\yJ F (wG L s.size (zD L s.size 10) (qC L s.size 10) 0)=o.v)/\ziE w z:=by
 have P:H (L.length<=400):=by have:=we s (s.size+1) 0;rw[d] at this;show _<=_;omega
 have N:H (Pro.Fit L):=by rw[<-d];exact YD s _ _
 have k:=ze r;have HO:=ze u;have HE:=ze d;subst u;subst d;clear r;have ad:=Yf (L:=zV s (s.size+1) 0) (T:=( s.size:Int)) (D:=zD (zV s (s.size+1) 0) ( s.size:Int) 10) (qI 10) 0 oa;have al:(((yR (zV s (s.size+1) 0) ( s.size:Int) (zD (zV s (s.size+1) 0) ( s.size:Int) 10) 0).n:Int) == ((zV s (s.size+1) 0).length:Int))=G:=by simp;omega
 have aj:=ad.2.2 t;go_enter func35,ntmps35;go_wp2_with(first|(go_at_call 39;refine(wo s 200 oa oa _ a k hw hc).mono ?_;rintro e w1 ⟨v,rfl,c,h⟩;have W:=ze c;obtain⟨pa,pn,pc,rfl⟩:=zr c;clear c;have an:=h.size)|(go_at_call 62;refine(alt_okT (WS W) (k.keep (h.alloc _) (λ_ _ f=>f)) oa P N oa t).mono ?_;rintro e w2 ⟨b,y,F,rfl,c,j,q,m⟩;have X:=ze c;have B:=ze j;have l:=ze c.size;rw[j] at l;clear j;have S:=ze q;clear c q;have af:=m.size;simp only[zhU] at af)|(go_at_call 63;refine(vd w1.heap.size _ _ _ _ _ S).mono ?_;rintro e wq ⟨rfl,q1,rfl⟩)|(go_at_call 36;refine(Yr F _ _ _ _ (yu.drewN l _)).mono ?_;rintro e w3 ⟨rfl,p⟩));go_ret2;exact⟨⟨b,y,F,rfl,zG.keep p (λ_ _ f=>f) F _ _ (zG.keep ((zf.refl (λ_=>False) _).drewN _) (λ_ _ f=>f) F _ _ (zG.mono (λg _ hg=>by simp at hg;omega) F _ _ X)),B⟩,((h.alloc _).later m (λi hi=>by unfold zt at hi;omega)).trans (zf.undrewN p)⟩
end
section
open Go.RowKit Go.Extern.Stop Go.Stop Go.Extern
set_option maxHeartbeats 4000000
set_option maxRecDepth 1000000
theorem Tryz.eTypeOf:(Extern.ReflectliteType.typeOf #[Ud 428 v]).run V w=.ok (Ud 283 (Uf #[Ua (I ⟨15,428,U⟩)])) w:=om
theorem Tryz.eComparable: ((Extern.ReflectliteType.method fun t => do Rtype.noPackHeld "Comparable" t; (fun a => C a.comparable) <$> typeInfo t) #[Uf #[Ua (I ⟨15, 428, U⟩)]]).run V w = .ok (C G) w := by kernel_rfl
theorem Tryz.eMethod: (Go.method 559 283 v "Comparable").run V w = .ok (338, v) w := by kernel_rfl
theorem Tryz.eComp:(prog.info? 428).map (·.comparable)=I G:=om
theorem Tryz.eSize:(prog.info? 447).map (·.size)=I 1:=om
theorem Tryz.eNoIs:(Uk (Ud 428 v) j 285 G).run V w=.ok (Ue #[Ui,C Z]) w:=run_typeAssert_lacksB underlying285 om om v j w
theorem Tryz.eNoUn:(Uk (Ud 428 v) j 288 G).run V w=.ok (Ue #[Ui,C Z]) w:=run_typeAssert_lacksB underlying288 om om v j w
theorem Tryz.eNoUns:(Uk (Ud 428 v) j 289 G).run V w=.ok (Ue #[Ui,C Z]) w:=run_typeAssert_lacksB underlying289 om om v j w
theorem Tryz.fNoIs:(Uk (Ud 122 v) j 285 G).run V w=.ok (Ue #[Ui,C Z]) w:=run_typeAssert_lacksB underlying285 om om v j w
theorem Tryz.fUn:(Uk (Ud 122 v) j 288 G).run V w=.ok (Ue #[Ud 122 v,C G]) w:=run_typeAssert_hasB underlying288 om v j w
theorem Tryz.fMethod: (Go.method 559 122 v "Unwrap").run V w = .ok (324, v) w := by kernel_rfl
theorem is_yes (b:Addr)(w:E)(h:w.cell? ⟨g,0,U⟩=I (Ud 428 (Ua (I b)))):Uh V 48 #[Ud 122 (Ua (I ⟨g,0,U⟩)),Ud 428 (Ua (I b))] w λe f=>e=R (C G)/\f=w:=by
 obtain ⟨i,c,a⟩:=zhd.1 Tryz.eComp;obtain ⟨j,d,l⟩:=zhd.1 Tryz.eSize;have y:=@run_callFunc_extern V 89 _ Extern.ReflectliteType.typeOf func89 (by kernel_rfl) (by kernel_rfl) (by kernel_rfl) (by kernel_rfl);have z := @run_callFunc_extern V 338 _ (Extern.ReflectliteType.method fun t => do Rtype.noPackHeld "Comparable" t; pure (C (← typeInfo t).comparable)) func338 (by kernel_rfl) (by kernel_rfl) (by kernel_rfl) (by kernel_rfl);have n:=Tryz.eTypeOf;have o:=Tryz.eComparable;have p:=Tryz.eMethod;have q:=Tryz.eNoIs;have r:=Tryz.eNoUn;have s:=Tryz.eNoUns;have u:=Tryz.fNoIs;have v:=Tryz.fUn;have x:=Tryz.fMethod;have k:=run_eql_iface_ptr_same (P:=V) w b underlying84 underlying428 c a d;have m:=run_eql_iface_types (P:=V) 122 428 (Ua (I ⟨g,0,U⟩)) (Ua (I b)) underlying84 (by decide) w;go_enter func48,ntmps48;go_wp2;refine wp_loop_rounds 2 ?_;rw [rounds_succ];go_wp2;rw [rounds_succ];go_wp2;go_ret;exact ⟨rfl,rfl⟩
theorem is_no (b c:Addr)(a d:Array Y)(p tc:TypeId)(w:E)(r:w.cell? ⟨g,0,U⟩=I (Ud 428 (Ua (I c))))(o:c≠b)(h:w.heap[c.block]?=I (Ub d tc (0,0)))(f:w.heap[b.block]?=I (Ub a p (0,0))):Uh V 48 #[Ud 122 (Ua (I ⟨g,0,U⟩)),Ud 428 (Ua (I b))] w λe q=>e=R (C Z)/\q=w:=by
 obtain ⟨i,l,k⟩:=zhd.1 Tryz.eComp;obtain ⟨j,m,n⟩:=zhd.1 Tryz.eSize;have T:=@run_callFunc_extern V 89 _ Extern.ReflectliteType.typeOf func89 (by kernel_rfl) (by kernel_rfl) (by kernel_rfl) (by kernel_rfl);have W := @run_callFunc_extern V 338 _ (Extern.ReflectliteType.method fun t => do Rtype.noPackHeld "Comparable" t; pure (C (← typeInfo t).comparable)) func338 (by kernel_rfl) (by kernel_rfl) (by kernel_rfl) (by kernel_rfl);have v:=Tryz.eTypeOf;have x:=Tryz.eComparable;have y:=Tryz.eMethod;have z:=Tryz.eNoIs;have B:=Tryz.eNoUn;have F:=Tryz.eNoUns;have L:=Tryz.fNoIs;have N:=Tryz.fUn;have S:=Tryz.fMethod;have s:=run_eql_iface_ptr_other (P:=V) w underlying84 underlying428 l k m (by rw [n];decide) o h f;have u:=run_eql_iface_types (P:=V) 122 428 (Ua (I ⟨g,0,U⟩)) (Ua (I b)) underlying84 (by decide) w;go_enter func48,ntmps48;go_wp2;refine wp_loop_rounds 2 ?_;rw [rounds_succ];go_wp2;rw [rounds_succ];go_wp2;go_ret;exact ⟨rfl,rfl⟩
end
section
open Go.RowKit
structure kh (w:E)(a:Nat->Addr):Prop where
 row:∀k,1<=k->k<=10->∃c t,w.heap[(a k).block]?=I (Ub c t (0,0))
 ne:∀j k,1<=j->j<=10->1<=k->k<=10->j≠k->a j≠a k
 s9:w.cell? ⟨0,0,U⟩=I (yj a 9)
 s10:w.cell? ⟨8,0,U⟩=I (yj a 10)
theorem kh.keep {w d:E}{a:Nat->Addr}(h:kh w a)(k:ziE w d):kh d a:=
 ⟨λj e g=>by
  obtain⟨c,t,b⟩:=h.row j e g;exact⟨c,t,(k.block _ (zgM.1 b).1 id).trans b⟩,h.ne,(k.cell (zgF w _ h.s9) id).trans h.s9,(k.cell (zgF w _ h.s10) id).trans h.s10⟩
theorem kh.is_no {w:E}{a:Nat->Addr}(h:kh w a)(g j k:Nat)(m:w.cell? ⟨g,0,U⟩=I (yj a k))(b:1<=j)(c:j<=10)(d:1<=k)(f:k<=10)(p:k≠j):Uh V 48 #[Ud 122 (Ua (I ⟨g,0,U⟩)),Ud 428 (Ua (I (a j)))] w λe s=>e=R (C Z)/\s=w:=by obtain⟨i,q,n⟩:=h.row j b c;obtain⟨l,r,o⟩:=h.row k d f;exact _root_.Go.Proofs.YtcgleficedipkaaGreatDoor.is_no g (a j) (a k) i l q r w m (λe=>h.ne k j d f b c p e) o n
theorem kh.is {w:E}{a:Nat->Addr}(h:kh w a)(g k:Nat)(b:w.cell? ⟨g,0,U⟩=I (yj a k))(f:1<=k)(i:k<=10)(j:Nat)(c:1<=j)(d:j<=10):Uh V 48 #[Ud 122 (Ua (I ⟨g,0,U⟩)),Ud 428 (Ua (I (a j)))] w λe l=>e=R (C (decide (k=j)))/\l=w:=by by_cases e:k=j;subst e;rw[decide_eq_true rfl];exact is_yes g (a k) w b;rw[decide_eq_false e];exact h.is_no g j k b c d f i e
end
section
open Go.RowKit Go.Extern.Stop Go.Stop Go.Extern
set_option maxHeartbeats 4000000
set_option maxRecDepth 1000000
theorem Tryz.rValueOfPP:(ReflectliteValue.unpack (Ud 124 (Ua (I t)))).run V w = .ok (Uf #[Ua (I ⟨15,124,U⟩),Ua (I ⟨w.heap.size,0,U⟩),M .u64 150]) (w.alloc (Ub #[Ua (I t)] 124)):=om
theorem Tryz.rTypePP: (ReflectliteValue.methodAny (ReflectliteValue.valueError "reflectlite.Value.Type" 0) (fun t _ _ _ => ReflectliteType.toType t) #[Uf #[Ua (I ⟨15, 124, U⟩), Ua (I a), M .u64 150]]).run V w
  = .ok (Ud 283 (Uf #[Ua (I ⟨15,124,U⟩)])) w:=om
theorem Tryz.rMethodKind: (Go.method 559 283 (Uf #[h]) "Kind").run V w = .ok (320, h) w := by kernel_rfl
theorem Tryz.rKindPP:((ReflectliteType.abiMethod λt=>(λa:Nat=>M IntKind.u8 (a:Int)) <$> Rtype.kind t) #[Ua (I ⟨15,124,U⟩)]).run V w=.ok (M .u8 22) w:=om
theorem Tryz.rKindP:((ReflectliteType.abiMethod λt=>(λa:Nat=>M IntKind.u8 (a:Int)) <$> Rtype.kind t) #[Ua (I ⟨15,122,U⟩)]).run V w=.ok (M .u8 22) w:=om
theorem Tryz.rPartsPP:(ReflectliteValue.parts (Uf #[Ua (I ⟨15,124,U⟩),Ua (I a),M .u64 150])).run V w=.ok (I (124,a,150)) w:=om
theorem Tryz.rIsNilPP (b:W.cell? a=I (Ua (I p))) :
  (ReflectliteValue.method (ReflectliteValue.valueError "reflectlite.Value.IsNil" 0) ReflectliteValue.isNil #[Uf #[Ua (I ⟨15, 124, U⟩), Ua (I a), M .u64 150]]).run V W = .ok (C Z) W := by
 show(ReflectliteValue.parts (Uf #[Ua (I ⟨15,124,U⟩),Ua (I a),M .u64 150]) >>= _:Sem Y).run V W=_;simp only[Sem.run_bind,Tryz.rPartsPP,Result.andThen];simp[ReflectliteValue.isNil,loadVar,isAgg,underlying,underlying124,b,Result.andThen]
theorem Tryz.rMethodElem: (Go.method 559 283 (Uf #[h]) "Elem").run V w = .ok (339, Uf #[h]) w := by kernel_rfl
theorem Tryz.rMethodImplements: (Go.method 559 283 (Uf #[h]) "Implements").run V w = .ok (340, Uf #[h]) w := by kernel_rfl
theorem Tryz.rMethodAssignableTo: (Go.method 559 283 (Uf #[h]) "AssignableTo").run V w = .ok (337, Uf #[h]) w := by kernel_rfl
theorem Tryz.rElemPP:(ReflectliteType.method ReflectliteType.elem #[Uf #[Ua (I ⟨15,124,U⟩)]]).run V w=.ok (Ud 283 (Uf #[Ua (I ⟨15,122,U⟩)])) w:=om
theorem Tryz.rImplementsP: (ReflectliteType.relation "Implements" ReflectliteType.implements_ #[Uf #[Ua (I ⟨15, 122, U⟩)], Ud 283 (Uf #[Ua (I ⟨15, 84, U⟩)])]).run V w = .ok (C G) w := by kernel_rfl
theorem Tryz.rTypeOfP:(ReflectliteType.typeOf #[Ud 122 v]).run V w=.ok (Ud 283 (Uf #[Ua (I ⟨15,122,U⟩)])) w:=om
theorem Tryz.rAssignableP: (ReflectliteType.relation "AssignableTo" ReflectliteType.assignableTo #[Uf #[Ua (I ⟨15, 122, U⟩)], Ud 283 (Uf #[Ua (I ⟨15, 122, U⟩)])]).run V w = .ok (C G) w := by kernel_rfl
theorem Tryz.rValueOfP:(ReflectliteValue.unpack (Ud 122 (Ua (I e)))).run V w = .ok (Uf #[Ua (I ⟨15,122,U⟩),Ua (I ⟨w.heap.size,0,U⟩),M .u64 150]) (w.alloc (Ub #[Ua (I e)] 122)):=om
theorem Tryz.rElemOfPP:(Rtype.elem? 124).run V w=.ok (I 122) w:=om
theorem Tryz.rMkP:(ReflectliteValue.mk 122 p ReflectliteValue.flagAddr).run V w=.ok (Uf #[Ua (I ⟨15,122,U⟩),Ua (I p),M .u64 406]) w:=om
theorem Tryz.rElemVPP (b:W.cell? a=I (Ua (I p))) :
  (ReflectliteValue.method (ReflectliteValue.valueError "reflectlite.Value.Elem" 0) ReflectliteValue.elem #[Uf #[Ua (I ⟨15, 124, U⟩), Ua (I a), M .u64 150]]).run V W
   = .ok (Uf #[Ua (I ⟨15,122,U⟩),Ua (I p),M .u64 406]) W:=by
 show(ReflectliteValue.parts (Uf #[Ua (I ⟨15,124,U⟩),Ua (I a),M .u64 150]) >>= _:Sem Y).run V W=_;simp only[Sem.run_bind,Tryz.rPartsPP,Result.andThen];simp[ReflectliteValue.elem,loadVar,isAgg,underlying,underlying124,b,Result.andThen,Tryz.rElemOfPP,Tryz.rMkP]
theorem Tryz.rPartsPa:(ReflectliteValue.parts (Uf #[Ua (I ⟨15,122,U⟩),Ua (I a),M .u64 406])).run V w=.ok (I (122,a,406)) w:=om
theorem Tryz.rPartsP:(ReflectliteValue.parts (Uf #[Ua (I ⟨15,122,U⟩),Ua (I a),M .u64 150])).run V w=.ok (I (122,a,150)) w:=om
theorem Tryz.rDirectP:(Rtype.directlyAssignable 122 122).run V w=.ok G w:=om
theorem Tryz.rSetP (a b e:Addr)(f:Y)(W:E)(c:W.cell? b=I (Ua (I e)))(g:W.cell? a=I f)(d:W.frozen? a=Z):(ReflectliteValue.set #[Uf #[Ua (I ⟨15,122,U⟩),Ua (I a),M .u64 406],Uf #[Ua (I ⟨15,122,U⟩),Ua (I b),M .u64 150]]).run V W = .ok (Ue #[]) (W.setCell a (Ua (I e))):=by show(ReflectliteValue.parts (Uf #[Ua (I ⟨15,122,U⟩),Ua (I a),M .u64 406]) >>= λy=>ReflectliteValue.parts (Uf #[Ua (I ⟨15,122,U⟩),Ua (I b),M .u64 150]) >>= _:Sem Y).run V W=_;simp only[Sem.run_bind,Tryz.rPartsPa,Tryz.rPartsP,Result.andThen];simp[ReflectliteValue.flagAddr,loadVar,isAgg,underlying,underlying122,c,Result.andThen,Tryz.rDirectP,storeVar,Value.cells,storeCells,Addr.add];rw[run_store V W a _ _ (by rfl)];simp[g,d]
theorem as_hit (a:w.cell? ⟨9,0,U⟩=I (Ud 283 (Uf #[Ua (I ⟨15,84,U⟩)])))(b:w.cell? t=I f)(i:w.frozen? t=Z):Uh V 49 #[Ud 122 (Ua (I e)),Ud 124 (Ua (I t))] w λg k=>g=R (C G)/\k=((((w.alloc (Ub #[Ua (I t)] 124)).alloc (Ub #[Ua (I ⟨15,124,U⟩),Ua (I ⟨w.heap.size,0,U⟩),M .u64 150] 213)).alloc (Ub #[Ua (I ⟨15,124,U⟩),Ua (I ⟨w.heap.size,0,U⟩),M .u64 150] 213)).alloc (Ub #[Ua (I e)] 122)).setCell t (Ua (I e)):=by
 have z:=@run_callFunc_extern V 91 _ (fun d=>ReflectliteValue.unpack (d.getD 0 (Ue #[]))) func91 (by kernel_rfl) (by kernel_rfl) (by kernel_rfl) (by kernel_rfl);have B := @run_callFunc_extern V 92 _ (ReflectliteValue.methodAny (ReflectliteValue.valueError "reflectlite.Value.Type" 0) (fun t _ _ _ => ReflectliteType.toType t)) func92 (by kernel_rfl) (by kernel_rfl) (by kernel_rfl) (by kernel_rfl);have F := @run_callFunc_extern V 93 _ (ReflectliteValue.method (ReflectliteValue.valueError "reflectlite.Value.IsNil" 0) ReflectliteValue.isNil) func93 (by kernel_rfl) (by kernel_rfl) (by kernel_rfl) (by kernel_rfl);have u:=@run_callFunc_extern V 320 _ (ReflectliteType.abiMethod fun t=>do pure (M .u8 (<-Rtype.kind t))) func320 (by kernel_rfl) (by kernel_rfl) (by kernel_rfl) (by kernel_rfl);have x:=@run_callFunc_extern V 339 _ (ReflectliteType.method ReflectliteType.elem) func339 (by kernel_rfl) (by kernel_rfl) (by kernel_rfl) (by kernel_rfl);have y := @run_callFunc_extern V 340 _ (ReflectliteType.relation "Implements" ReflectliteType.implements_) func340 (by kernel_rfl) (by kernel_rfl) (by kernel_rfl) (by kernel_rfl);have q:=@run_callFunc_extern V 89 _ ReflectliteType.typeOf func89 (by kernel_rfl) (by kernel_rfl) (by kernel_rfl) (by kernel_rfl);have v := @run_callFunc_extern V 337 _ (ReflectliteType.relation "AssignableTo" ReflectliteType.assignableTo) func337 (by kernel_rfl) (by kernel_rfl) (by kernel_rfl) (by kernel_rfl);have r := @run_callFunc_extern V 137 _ (ReflectliteValue.method (ReflectliteValue.valueError "reflectlite.Value.Elem" 0) ReflectliteValue.elem) func137 (by kernel_rfl) (by kernel_rfl) (by kernel_rfl) (by kernel_rfl);have s:=@run_callFunc_extern V 138 _ ReflectliteValue.set func138 (by kernel_rfl) (by kernel_rfl) (by kernel_rfl) (by kernel_rfl);have tO:=Tryz.rTypeOfP;have T:=Tryz.rMethodAssignableTo;have l:=Tryz.rAssignableP;have vP:=Tryz.rValueOfP;have o:=Tryz.rValueOfPP;have p:=Tryz.rTypePP;have mK:=Tryz.rMethodKind;have W:=Tryz.rMethodElem;have X:=Tryz.rMethodImplements;have S:=Tryz.rKindPP;have P:=Tryz.rKindP;have m:=Tryz.rElemPP;have N:=Tryz.rImplementsP;have n8:=Tryz.rIsNilPP ⟨w.heap.size,0,U⟩ t ((w.alloc (Ub #[Ua (I t)] 124)).alloc (Ub #[Ua (I ⟨15,124,U⟩),Ua (I ⟨w.heap.size,0,U⟩),M .u64 150] 213)) (by simp);have j:9<w.heap.size:=zgF w ⟨9,0,U⟩ a;have L:((w.alloc (Ub #[Ua (I t)] 124)).alloc (Ub #[Ua (I ⟨15,124,U⟩),Ua (I ⟨w.heap.size,0,U⟩),M .u64 150] 213)).cell? ⟨9,0,U⟩=I (Ud 283 (Uf #[Ua (I ⟨15,84,U⟩)])):=by
  rw[zhn _ _ ⟨9,0,U⟩ ou,zhn _ _ ⟨9,0,U⟩ j];exact a
 have c:t.block<w.heap.size:=zgF w t b;have n:=Tryz.rElemVPP ⟨w.heap.size,0,U⟩ t (((w.alloc (Ub #[Ua (I t)] 124)).alloc (Ub #[Ua (I ⟨15,124,U⟩),Ua (I ⟨w.heap.size,0,U⟩),M .u64 150] 213)).alloc (Ub #[Ua (I ⟨15,124,U⟩),Ua (I ⟨w.heap.size,0,U⟩),M .u64 150] 213)) (by rw[zhn _ _ ⟨w.heap.size,0,U⟩ ou];simp);have h:=Tryz.rSetP t ⟨w.heap.size+1+1+1,0,U⟩ e f ((((w.alloc (Ub #[Ua (I t)] 124)).alloc (Ub #[Ua (I ⟨15,124,U⟩),Ua (I ⟨w.heap.size,0,U⟩),M .u64 150] 213)).alloc (Ub #[Ua (I ⟨15,124,U⟩),Ua (I ⟨w.heap.size,0,U⟩),M .u64 150] 213)).alloc (Ub #[Ua (I e)] 122))
  (by rw[zie _ _ _ _ ov];rfl)
  (by rw[zhn _ _ t ou,zhn _ _ t ou,zhn _ _ t ou,zhn _ _ t c];exact b)
  (by rw[zh3 _ _ t ou,zh3 _ _ t ou,zh3 _ _ t ou,zh3 _ _ t (Nat.ne_of_lt c)];exact i)
 go_enter func49,ntmps49;go_wp2;refine wp_loop_rounds 1 ?_;rw[rounds_succ];go_wp2;go_ret;exact⟨rfl,rfl⟩
theorem as_set (g:w.cell? ⟨9,0,U⟩=I (Ud 283 (Uf #[Ua (I ⟨15,84,U⟩)])))(a:w.cell? t=I f)(d:w.frozen? t=Z):Uh V 49 #[Ud 122 (Ua (I e)),Ud 124 (Ua (I t))] w λc b=>c=R (C G)/\b.cell? t=I (Ua (I e))/\zf (zt t.block) w b:=by refine(as_hit e t f w g a d).mono ?_;rintro c b ⟨rfl,rfl⟩;have h:t.block<w.heap.size:=zgF w t a;refine⟨rfl,zgL _ _ _ (u:=f) ?_,?_⟩;rw[zhn _ _ t ou,zhn _ _ t ou,zhn _ _ t ou,zhn _ _ t h];exact a;exact((((((zf.refl (zt t.block) w).alloc _).alloc _).alloc _).alloc _)).setCell (Q rfl) _
end
section
open Go.RowKit
namespace Pro
variable {L:List (Int×Int)} {T:Int}
theorem kQ {k:Nat}(h:k<=8)(p:Int)(n:Nat):(bad k p n).k<=8:=h
theorem yS (v:Int)(n:Nat):(good v n).k<=8:=Nat.zero_le _
theorem zeroO_k (n:Nat):(vJ L T n).k<=8:=by unfold vJ;split;exact kQ od _ _;exact yS _ _
theorem zdd (n:Nat):(xN L T n).k<=8:=by unfold xN;split;exact yS _ _;exact kQ od _ _
theorem WW:∀(f:Nat) (c:Int) (n:Nat),(yF L T f c n).k<=8
 |0,c,n=>yS _ _
 |f+1,c,n=>by unfold yF;split;exact kQ od _ _;exact WW f _ _
theorem VU:∀(f:Nat) (c:Int) (d n:Nat),(xH L T f c d n).k<=8
 |0,c,_,n=>yS _ _
 |f+1,c,d,n=>by
  unfold xH;split;exact yS _ _;split;exact kQ od _ _;exact VU f _ _ _
theorem zde (n:Nat):(ym L T n).k<=8:=by unfold ym;split;exact WW _ _ _;split;exact yS _ _;exact WW _ _ _
theorem numO_k (n:Nat):(vE L T n).k<=8:=by unfold vE;split;exact yS _ _;split;exact zeroO_k _;split;exact zdd _;split;exact WW _ _ _;split;exact VU _ _ _ _;split;exact zde _;exact kQ od _ _
theorem escO_k (n:Nat):(xO L T n).k<=8:=by unfold xO;split;exact yS _ _;split;exact kQ od _ _;exact numO_k _
theorem Xe (n:Nat):(zp L T n).k<=8:=by unfold zp;split;exact yS _ _;split;exact yS _ _;split;exact escO_k _;exact yS _ _
theorem rangeO_k (m:Bool)(c:Int)(n:Nat):(xU L T m c n).k<=8:=by unfold xU;split;exact Xe _;split;exact kQ od _ _;exact Xe _
theorem addO_k (n:Nat):(qD L T n).k<=8:=by unfold qD;split;exact Xe _;split;exact rangeO_k _ _ _;exact Xe _
theorem za5:∀(f n:Nat),(qS L T f n).k<=8
 |0,n=>yS _ _
 |f+1,n=>by
  unfold qS;split;exact yS _ _;split;exact kQ od _ _;split;exact addO_k _;exact za5 f _
theorem za6 (n:Nat):(yx L T n).k<=8:=by unfold yx;split;exact kQ od _ _;split;exact kQ od _ _;exact yS _ _
theorem zfk (n:Nat):(yi L T n).1.k<=8:=by unfold yi;simp only[];split;exact za6 _;split;exact yS _ _;split;exact kQ od _ _;split;exact yS _ _;split;exact za6 _;split;exact kQ od _ _;split;exact kQ od _ _;exact yS _ _
theorem quantO_k (n:Nat):(zy L T n).2.1.k<=8:=by unfold zy;split;exact yS _ _;split;exact yS _ _;split;exact yS _ _;split;exact zfk _;exact yS _ _
theorem openO_k (n:Nat):(z8 L T n).k<=8:=by unfold z8;split;split;exact yS _ _;split;exact kQ od _ _;exact kQ od _ _;exact yS _ _
theorem oneO_k {o:Out}(h:o.k<=8):(one o).k<=8:=by unfold one;split;exact yS _ _;exact h
theorem zec {D:Nat->Out}(a:∀n,(D n).k<=8)(n:Nat):(zM L T D n).k<=8:=by unfold zM;split;exact kQ od _ _;split;exact a _;split;exact oneO_k (za5 _ _);split;exact oneO_k (escO_k _);exact yS _ _
theorem groupO_k {a:Nat->Out}(b:∀n,(a n).k<=8)(n:Nat):(wF L T a n).k<=8:=by unfold wF;split;exact openO_k _;split;exact b _;split;exact yS _ _;exact kQ od _ _
theorem termO_k {D:Nat->Out}(a:∀n,(D n).k<=8)(n:Nat):(yL L T D n).k<=8:=by unfold yL;split;exact yS _ _;split;exact zec a _;split;exact zec a _;split;exact quantO_k _;exact yS _ _
theorem za7 {D:Nat->Out}(a:∀n,(D n).k<=8):∀(f:Nat) (s:Int) (n:Nat),(xD L T D f s n).k<=8
 |0,s,n=>yS _ _
 |f+1,s,n=>by
  unfold xD;split;exact yS _ _;split;exact termO_k a _;exact za7 a f _ _
theorem zdf {D:Nat->Out}(a:∀n,(D n).k<=8):∀(f:Nat) (zs:List Int) (n:Nat),(vk L T D f zs n).k<=8
 |0,_,n=>yS _ _
 |f+1,zs,n=>by
  unfold vk;split;exact za7 a _ _ _;split;exact zdf a f _ _;exact yS _ _
theorem zed:∀(r n:Nat),(zD L T r n).k<=8
 |0,n=>kQ od _ _
 |r+1,n=>groupO_k (λm=>zdf (zed r) _ _ m) n
theorem altP_k (n:Nat):(yR L T (zD L T 10) n).k<=8:=zdf (zed 10) _ _ n
end Pro
open Sm (Tree yJ)
set_option maxHeartbeats 2000000
set_option maxRecDepth 1000000
structure Start (w:E)(a:Nat->Addr):Prop where
 sents:yt w a
 rows:kh w a
 et:w.cell? ⟨9,0,U⟩=I (Ud 283 (Uf #[Ua (I ⟨15,84,U⟩)]))
 size:11<=w.heap.size
theorem Start.keep {w b:E}{a:Nat->Addr}(h:Start w a)(k:ziE w b):Start b a:=
 ⟨h.sents.keep k (λ_ _ f=>f),h.rows.keep k,zg k _ _ h.et id,zgN h.size k.size⟩
theorem Kv (p:Int)(w:E)(d:w.cell? ⟨9,0,U⟩=I (Ud 283 (Uf #[Ua (I ⟨15,84,U⟩)])))(c:w.cell? ⟨g,1,U⟩=I (M J p)):Uh V 26 #[Ud 122 (Ua (I ⟨g,0,U⟩))] w λe l=>e=R (M J p)/\ziE w l:=by
 have o:g<w.heap.size:=zgF w ⟨g,1,U⟩ c;have h:=ze (as_set ⟨g,0,U⟩ ⟨w.heap.size,0,U⟩ (Ua U) (w.alloc (Ub #[Ua U] 122)) (zg ((zf.refl (λ_=>False) w).alloc _) _ _ d id) (zm w _ rfl _ _ 0 _ rfl) (zu w _ rfl _ _ 0));have j:H (∀a,zf (zt w.heap.size) (w.alloc (Ub #[Ua U] 122)) a->a.cell? ⟨g,1,U⟩=I (M J p)):=λa b=>
  zg b _ _ (zg ((zf.refl (λ_=>False) w).alloc _) _ _ c id) (λe=>by have:g=w.heap.size:=e;omega)
 clear d;go_enter func26,ntmps26;go_wp2_with(go_at_call 49;refine h.mono ?_;rintro e a ⟨rfl,n,b⟩;have m:=j a b);go_ret;exact⟨rfl,((zf.refl (λ_=>False) w).alloc _).later b (λi k=>by unfold zt at k;omega)⟩
def PatBad (s:ByteArray)(a:Nat->Addr)(k:Nat)(p:Int)(w:E):Prop:=
 Uh V 35 #[Uc s] w λx b=>∃v,x=R (Ue #[Ui,v])/\zN b w.heap.size v (yj a k) p/\ziE w b
def zee (s:ByteArray)(t:Tree)(v:Int)(w:E):Prop:=
 Uh V 35 #[Uc s] w λx a=>(∃T y F,x=R (Ue #[Ud T y,Ui])/\zG F a (λg=>w.heap.size<=g) (Ud T y) t/\yJ F t=v)/\ziE w a
def TreeOK (t:Tree):Prop:=∀f,kL f t/\kM f t/\jP f t
open Sm (Tree)
def RefBad (s:ByteArray)(k:Nat)(p:Int):Prop:=∀w:E,Uh V 53 #[Uc s] w λx a=>x=R (Ue #[Ua U,M J k,M J p])/\ziE w a

end
section
open Sm (Tree)
theorem asks_of {F:Nat}{t:Tree}{W:Int->Bool}(h:jP F t)(d:((prg F t).2.any askS)=G->W=zX 119):Asks (prg F t).2 W:=λp s b a=>by have c:=prg_asks h s (zgS b) a;refine⟨c,λe=>d (List.any_eq_true.2 ⟨s,zgS b,?_⟩)⟩;unfold askS;simp[a];omega
end
section
open Go.RowKit
open Sm (Tree)

theorem rising_eq:∀(a b:List Nat),a.Pairwise (· < ·)->b.Pairwise (· < ·)->(∀j,j∈a↔j∈b)->a=b
 | [],[],_,_,_=>rfl
 | [],k :: b,_,_,h=>absurd ((h k).2 ov) ov
 |j :: a,[],_,_,h=>absurd ((h j).1 ov) ov
 |j :: a,k :: b,d,f,h=>by
  have a1:=zhk.1 d;have c:=zhk.1 f;have e:j=k:=by rcases zhh.1 ((h j).1 ov) with e|m;exact e;rcases zhh.1 ((h k).2 ov) with e|i;exact e.symm;have:=a1.1 k i;have:=c.1 j m;omega
  subst e;rw[rising_eq a b a1.2 c.2 (λx=>⟨λg=>?_,λg=>?_⟩)]
  grind
  grind
end
