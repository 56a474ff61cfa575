/- The program's sets: the iterator over a class's ranges. -/
import Derived.Test.YtcgleficedipkaaGreatDoorYCsACsJ
import Derived.Test.YtcgleficedipkaaGreatDoorYTrISizA
namespace Go.Proofs.YtcgleficedipkaaGreatDoor
open Option renaming none->U,some->I
open Value renaming int->M,slice->K,bool->C,pointer->Ua,tuple->Ue,agg->Uf
open IntKind renaming i64->J,i32->Ug
open Bool renaming false->Z,true->G
open _root_.Go.Proofs.Tryz renaming prog->V
open Go renaming World->E,Value->Y,Calls->Uh
open Go.RowKit renaming Hid->H
open Or renaming inr->O,inl->Q
open Obj renaming cells->Ub
open Pro Cs
open _root_.Go.Proofs.Tryz
variable (neg:Bool)(v1 v2:Value){w:World}(R:List (Int×Int))(S:List Int)
section
open Go.RowKit Go.Shelf
set_option maxHeartbeats 8000000
set_option maxRecDepth 1000000
attribute [local go_sem] Oper.semAt_some
theorem XC:∀(l:List (Int×Int)) (j:Nat) (p:Int×Int),l[j]?=I p->(rangeCells l)[j*2]?=I (M Ug p.1)/\(rangeCells l)[j*2+1]?=I (M Ug p.2)
 | [],j,p,h=>by simp at h
 |x :: l,0,p,h=>by simp at h;subst h;simp[rangeCells]
 |x :: l,j+1,p,h=>by
  have:=XC l j p (by simpa using h);rw[show(j+1)*2=j*2+2 by omega];simpa [rangeCells] using this
structure ClsBox (w:E)(A:Nat->Prop)(kb:Nat)(v1 v2:Y)(R:List (Int×Int))(S:List Int):Prop where
 c1:w.cell? ⟨kb,1,U⟩=I v1
 c2:w.cell? ⟨kb,2,U⟩=I v2
 r1:qt w A v1 R.length (rangeCells R)
 r2:qt w A v2 S.length (jE S)
theorem qt.facts {A:Nat->Prop}{v:Y}{n:Nat}{xs:List Y}(h:qt w A v n xs):∃a b,v=K a n b/\(n≠0->∃g,a=I ⟨g,0,U⟩/\n<=b/\(A g/\g<w.heap.size)/\∀j x,xs[j]?=I x->w.cell? ⟨g,j,U⟩=I x):=by
 rcases h with⟨rfl,rfl,rfl⟩|⟨g,c,rfl,d,e,f,i⟩;exact⟨U,0,rfl,λh=>absurd rfl h⟩
 grind
def mkD (D:Nat):Deferred:={ target:=.collected D,args:=#[] }
theorem Qh {n:Nat}{P:Program}{c:Func}{tmps:Array Y}{R:Ending->E->Prop}(f:c.results=#[]):∀(a:List Nat) (w:E),a.Nodup->(∀D∈a,w.heap[D]?=I (.deferred (I [])))->(∀b,zf (λk=>k∈a) w b->R (.returned (Ue #[])) b)->LeavesInM Fence.wide n P c tmps R (a.map mkD) .returning w
 | [],w,_,_,h=>⟨_,results_none f _ _ _,h w (zf.refl _ _)⟩
 |D :: a,w,m,e,h=>by
  obtain⟨i,j⟩:=List.nodup_cons.1 m;refine⟨ov,Q ⟨_,_,rfl,run_takeDeferred (e D (zgQ ..)),?_⟩⟩;refine Qh f a _ j (λg d=>?_) (λb o=>h b ?_);rw[World.putObj_heap_other (by rintro rfl;exact i d)];exact e g (zgR _ d);exact((zf.refl (λk=>k∈D :: a) w).putObj D _ (Q (zgQ ..))).trans (o.mono (λk _ l=>zgR _ l))
structure MemI (w0:E)(D:Nat->Prop)(J:List (Int×Int)->(Nat->Prop)->E->Prop)(k0 lp:Nat)(ds:List Nat)(base:List (Int×Int))(pre:List (Int×Int))(O:Nat->Prop)(X:E):Prop where
 j:J (base++pre) O X
 kept:jT D w0 X O
 nO:¬O k0
 y:X.cell? ⟨k0,0,U⟩=I (.func (.yield lp) #[] #[])
 ms:∀m∈ds,¬O m/\X.heap[m]?=I (.deferred (I []))
 lt:∀k,O k->k<X.heap.size
theorem MemI.keep {i:E}{D:Nat->Prop}{c:List (Int×Int)->(Nat->Prop)->E->Prop}{e j B B2:Nat}{f:List Nat}{base b:List (Int×Int)}{O:Nat->Prop}{X X':E}(r:∀b O A A',c b O A->zf (λk=>B<=k/\¬O k) A A'->c b O A')(u:B<=B2)(t:i.heap.size<=B2)(v:e<B2)(s:∀m∈f,m<B2)(h:MemI i D c e j f base b O X)(o:zf (λk=>B2<=k/\¬O k) X X'):MemI i D c e j f base b O X':=
 ⟨r _ _ _ _ h.j (o.mono (λk _ a=>⟨oa,a.2⟩)),
  ⟨zgN h.kept.1 o.size,λk a=>by
   obtain⟨l,n,q⟩:=h.kept.2 k a;have:=h.kept.1;exact⟨l,n,(o.block k oa (λg=>oa)).trans q⟩⟩,
  h.nO,(o.cell (p:=⟨e,0,U⟩) (zgF X _ h.y) (λg=>by have:=g.1;simp at this;omega)).trans h.y,
  λm d=>⟨(h.ms m d).1,(o.block m (zgM.1 (h.ms m d).2).1 (λg=>by have:=s m d;omega)).trans (h.ms m d).2⟩,
  λk a=>zgJ (h.lt k a) o.size⟩
theorem MemI.yield {l:E}{D:Nat->Prop}{b:List (Int×Int)->(Nat->Prop)->E->Prop}{d j:Nat}{f:List Nat}{base e:List (Int×Int)}{x:Int×Int}{O O':Nat->Prop}{X X':E}(h:MemI l D b d j f base e O X)(q:b (base++e++[x]) O' X')(i:∀k,O' k->O k\/X.heap.size<=k)(c:zf O X X')(r:∀k,O' k->k<X'.heap.size):MemI l D b d j f base (e++[x]) O' X':=by
 have no:∀m,¬O m->m<X.heap.size->¬O' m:=λm n s o=>by rcases i m o with h|h;exact n h;omega
 have g:=zgF X _ h.y;exact⟨by rw[<-zgX];exact q,h.kept.yield i c,no _ h.nO g,(c.cell (p:=⟨d,0,U⟩) g h.nO).trans h.y,λm a=>⟨no m (h.ms m a).1 (zgM.1 (h.ms m a).2).1,(c.block m (zgM.1 (h.ms m a).2).1 (h.ms m a).1).trans (h.ms m a).2⟩,r⟩
theorem zaU (A:Nat->Prop)(b:Nat)(q:E)(h:ClsBox q A b v1 v2 R S)(hS:∀a∈S,okSh a)(hR:R.length<=1000)(b4:S.length<=1000)(n:Nat)(cb:5<=n):SeqO Fence.wide n V 226 #[Ua (I ⟨b,0,U⟩)] Zx (R++S.flatMap shL) (λk=>k=b\/(A k/\k<q.heap.size)) q:=by
 intro t ab O0 W hO hD aX hJ hY h0;have bC:=zgF q _ h.c1;have z:H (jT (λk=>k=b\/(A k/\k<q.heap.size)) q W O0):=jT.start (λk w=>by rcases w with rfl|w;exact bC;exact w.2) hO hD;have a2:=(z.cell (p:=⟨b,1,U⟩) (Q rfl)).trans h.c1;have b7:=(z.cell (p:=⟨b,2,U⟩) (Q rfl)).trans h.c2;obtain⟨pa,pc,rfl,HC⟩:=h.r1.facts;obtain⟨qa,qc,rfl,ax⟩:=h.r2.facts;have HC:=ze HC;have ax:=ze ax;have T:=ze hJ;have HY:=ze hY;have H0:=ze h0;have bm:=ze hS;have aN:=ze aX;have bz:=h.c2;have a6:=hO.size;clear h hJ hY h0 hD aX hS;have HA:H (ziE W (W.alloc (Ub #[.func (.yield t) #[] #[]] 352))):=(zf.refl _ _).alloc _;have bD:=zgF W _ a2;have bv:=(HA.cell (p:=⟨b,1,U⟩) bD id).trans a2;have a0:(W.alloc (Ub #[.func (.yield t) #[] #[]] 352)).cell? ⟨W.heap.size,0,U⟩=I (.func (.yield t) #[] #[]):=zm W _ rfl _ _ 0 _ rfl;have aL:H (ab [] O0 (W.alloc (Ub #[.func (.yield t) #[] #[]] 352))):=zb T _ _ _ _ H0 ((zf.refl _ W).alloc _);have aM:=ze (z.young (W:=W) a6 (A':=W.alloc (Ub #[.func (.yield t) #[] #[]] 352)) ((zf.refl _ W).alloc _));have ch:(W.alloc (Ub #[.func (.yield t) #[] #[]] 352)).heap.size=W.heap.size+1:=ov
 have bF:¬O0 W.heap.size:=λh=>by have:=zb aN _ h;omega
 clear z H0;refine callsIn_of_wp_marks func226 rfl trivial ?_ rfl;simp only[ntmps226,zhg,zg4,zhe,Nat.reduceAdd,Nat.reduceSub,zhA,zhz,zhK,zhC,zho,zhf]
 gi_wp2
 generalize W.alloc (Ub #[.func (.yield t) #[] #[]] 352)=W1 at *
 gi_loopw [12] (λvi wr=>∃(i:Nat) (o:Nat->Prop),vi=M J i/\i<=R.length/\H (ab (R.take i) o wr)/\H (jT (λk=>k=b\/(A k/\k<q.heap.size)) q wr o)/\¬o W.heap.size/\wr.cell? ⟨W.heap.size,0,U⟩=I (.func (.yield t) #[] #[])/\W.heap.size+1<=wr.heap.size/\H (∀k,o k->k<wr.heap.size)) (λvi _=>R.length-(intOf vi).toNat)
 case atStart=>exact⟨0,O0,rfl,oa,aL,aM,bF,a0,oa,(λk w=>by have:=zb aN k w;omega)⟩
 case round=>
  clear aM aL a0 bv;obtain⟨i,o,rfl,hi,ae,z,aq,ap,cd,aP⟩:=hrel;by_cases aD:i<R.length
  ·(obtain⟨g,rfl,bI,am,N⟩:=zb HC oa;have ac:R[i]?=I R[i]:=zgE aD;obtain⟨e1,e2⟩:=XC R i _ ac;have c1:=(z.cell (p:=⟨g,i*2,U⟩) (O am)).trans (N _ _ e1);have c2:=(z.cell (p:=⟨g,i*2+1,U⟩) (O am)).trans (N _ _ e2);clear e1 e2 N;have HP:H ((R.take i++[R[i]]) <+: (R++S.flatMap shL)):=(Kj R i aD).trans (ziq _ _);have HT:H (R.take i++[R[i]]=R.take (i+1)):=Zw R i aD;clear ac;generalize R[i]=y at *;have aT:ziE wr (wr.alloc (Ub #[M Ug y.1,M Ug y.2] 373)):=(zf.refl _ wr).alloc _;have an:=zb T (R.take i) o wr (wr.alloc (Ub #[M Ug y.1,M Ug y.2] 373)) ae ((zf.refl _ wr).alloc _);have af:=ze (z.young (W:=W) a6 (A':=wr.alloc (Ub #[M Ug y.1,M Ug y.2] 373)) ((zf.refl _ wr).alloc _));have a1:=(aT.cell (p:=⟨W.heap.size,0,U⟩) (zgF wr _ ap) id).trans ap;have aF:(wr.alloc (Ub #[M Ug y.1,M Ug y.2] 373)).heap.size=wr.heap.size+1:=ov;obtain⟨fn,aH,assign,body,hy,hR⟩:=zb HY (R.take i) o y _ an HP;simp only[Zx] at hy;clear an aT;gi_wp2;refine⟨λh=>by simp[Fence.wide] at h,hR.mono ?_⟩;rintro e W3 ⟨rfl,O',bp,a5,aC,bE⟩;have bj:=ze (af.yield a5 aC);have bx:=(aC.cell (p:=⟨W.heap.size,0,U⟩) (zgF _ _ a1) aq).trans a1;have bG:¬O' W.heap.size:=λh=>by rcases a5 _ h with h|h;exact aq h;omega);have cg:=aC.size;gi_wp2;exact⟨⟨i+1,O',by go_num,oa,(by rw[<-zb HT];exact bp),bj,bG,bx,oa,bE⟩,by simp[intOf];omega⟩
  obtain rfl:i=R.length:=oa;rw[zhG] at ae;have bw:=(z.cell (p:=⟨b,2,U⟩) (Q rfl)).trans bz;gi_wp2;refine wpIn_loop (λa' w'=>∃(j:Nat) (B:List Nat) (o:Nat->Prop) (v6 a9 ba bb bc be bf aI:Y),a' = { tmps:=#[.func (.yield t) #[] #[],Ua (I ⟨b,0,U⟩),Ua (I ⟨W.heap.size,0,U⟩),undef,u4,undef,v6,undef,undef,Ua (I ⟨b,1,U⟩),K pa R.length pc,M J (R.length:Nat),M J (R.length:Nat),C Z,u14,u15,u16,u17,u18,u19,u20,u21,u22,u23,Ua (I ⟨b,2,U⟩),K qa S.length qc,M J (S.length:Nat),M J (j:Nat),a9,ba,bb,bc,be,bf,undef,undef,undef,undef,undef,undef,undef,aI],defers:=B.map mkD }/\j<=S.length/\B.Nodup/\(∀m∈B,W.heap.size<=m)/\H (MemI q (λk=>k=b\/(A k/\k<q.heap.size)) ab W.heap.size t B (R++(S.take j).flatMap shL) [] o w')) (λa' _=>S.length-(intOf (a'.tmps.getD 27 undef)).toNat) ?start ?round
  case start=>exact⟨0,[],o,undef,undef,undef,undef,undef,undef,undef,undef,rfl,oa,List.nodup_nil,(λm c=>by cases c),⟨by simpa using zb ae,z,aq,ap,(λm c=>by cases c),aP⟩⟩
  case round=>
   clear ae z aq ap aP bw;rintro a' ad ⟨j,B,o,v6,a9,ba,bb,bc,be,bf,aI,rfl,hj,a4,bA,s⟩;by_cases P:j<S.length
   ·(obtain⟨g,rfl,bI,am,N⟩:=zb ax oa;have ac:S[j]?=I S[j]:=zgE P;have c1:=(s.kept.cell (p:=⟨g,j,U⟩) (O am)).trans (N j (M Ug S[j]) (by simp[jE,ac]));have bH:=zb bm S[j] (zg5 P);have HT:H (R++(S.take j).flatMap shL++shL S[j]=R++(S.take (j+1)).flatMap shL):=by rw[<-Zw S j P,List.flatMap_append,zgX];simp only[zhZ,List.flatMap_nil,zhc];trivial);have HP:H ((R++(S.take j).flatMap shL++shL S[j]) <+: (R++S.flatMap shL)):=by
     rw[zb HT];refine(List.prefix_append_right_inj _).2 ?_
     (conv=>rhs;rw[<-List.take_append_drop (j+1) S,List.flatMap_append]);exact ziq _ _
    clear N ac;generalize S[j]=a at *;gi_wp2;refine⟨trivial,λh=>by simp[Fence.wide] at h,(callsIn_wide.2 (XB a bH _)).mono ?_⟩;rintro e V1 ⟨v,rfl,hN⟩;obtain⟨sv,rfl,aE,bK,bB⟩:=hN.1.short;have aB:=hN.2;clear hN bB;have bL:∃pa pn pc,sv=K pa pn pc:=(by rcases aE with⟨h1,_⟩|⟨g,b1,h1,_⟩<;>exact⟨_,_,_,h1⟩);obtain⟨ra,rn,rc,rfl⟩:=bL;gi_wp2;refine⟨trivial,λh=>by simp[Fence.wide] at h,(callsIn_wide.2 (XN _ _ ⟨_,_,_,rfl⟩)).mono ?_⟩;rintro e V2 ⟨v,rfl,aG,rfl,b8,a3,L⟩;have bk:=ze (aB.trans L);have ce:=aB.size;have cf:=L.size;have ca:=bK.len;have bl:=ze (aE.keep L (λ_ _ f=>f));have af:=ze a3;have aa:H (MemI q (λk=>k=b\/(A k/\k<q.heap.size)) ab W.heap.size t B (R++(S.take j).flatMap shL) [] o V2):=s.keep (B2:=ad.heap.size) T (by have:=zgF ad _ s.y;simp at this;omega) s.kept.1 (by have:=zgF ad _ s.y;simpa using this) (λm c=>(zgM.1 (s.ms m c).2).1) (bk.mono (λ_ _ f=>f.elim));have bN:=zgF ad _ s.y;simp only[] at bN;clear aB L aE a3;gi_wp2;refine Yw (F:=Fence.wide) rfl oa (gf:=198) (lb:=#[Ua (I ⟨aG,0,U⟩)]) rfl trivial (enters_of func198 om rfl)
     (ZQ _ (shL a) _ aG V2 bl af oa (n-1) oa) (λ_=>rfl) (MemI q (λk=>k=b\/(A k/\k<q.heap.size)) ab W.heap.size t B (R++(S.take j).flatMap shL)) o aa.lt ?d ?i aa
     (λx=>{ tmps:=#[.func (.yield t) #[] #[],Ua (I ⟨b,0,U⟩),Ua (I ⟨W.heap.size,0,U⟩),undef,u4,undef,M Ug a,M Ug x.1,M Ug x.2,Ua (I ⟨b,1,U⟩),K pa R.length pc,M J (R.length:Nat),M J (R.length:Nat),C Z,u14,u15,u16,u17,u18,u19,u20,u21,u22,u23,Ua (I ⟨b,2,U⟩),K (I ⟨g,0,U⟩) S.length qc,M J (S.length:Nat),M J (j:Nat),C G,Ua (I ⟨g,j,U⟩),M Ug a,M Ug a,Uf #[K ra rn rc],.func (.func 198) #[] #[Ua (I ⟨aG,0,U⟩)],M Ug x.1,M Ug x.2,undef,undef,undef,undef,undef,aI],defers:=[] }) ?assign ?body ?done
    case d=>
     rintro k (rfl|⟨h1,h2⟩);exact⟨zgF V2 _ af,λw=>by have:=s.lt _ w;omega⟩;exact⟨h2,λw=>by have:=s.lt _ w;omega⟩
    case i=>
     intro a7 O1 X X' u bu;exact u.keep (B2:=V2.heap.size) T oa aa.kept.1 oa (λm c=>(zgM.1 (aa.ms m c).2).1) bu
    case assign=>
     intro l x W bU hK;unfold Zx;gi_wp2;exact hK
    case body=>
     rintro l2 a7 O1 x X b9 b3 ⟨r,hr⟩ u bJ;obtain⟨fn,aH,assign,body,hy,hR⟩:=YieldAt.anyN (m':=n-1-1-1) (zb HY (R++(S.take j).flatMap shL++a7) O1 x X u.j (by rw[zgX];exact List.IsPrefix.trans ((List.prefix_append_right_inj _).2 bJ) HP));simp only[Zx] at hy;have ci:=u.y;obtain⟨xa,xc⟩:=x;simp only[] at hy ⊢;gi_wp2;refine⟨λh=>by simp[Fence.wide] at h,RoundIn.mono hR ?_⟩;rintro e X2 ⟨rfl,O',an,aF,L,P⟩;gi_wp2;exact⟨O',u.yield an aF L P,aF,L,P⟩
    case done=>
     rintro Dm O1 X b2 bt u bs;gi_wp2;refine⟨⟨j+1,Dm :: B,O1,_,_,_,_,_,_,_,_,rfl,oa,List.nodup_cons.2 ⟨λc=>?_,a4⟩,?_,?_⟩,?_⟩;have:=(zgM.1 (aa.ms Dm c).2).1;omega
     grind
     refine⟨by rw[zhc,<-zb HT];exact u.j,u.kept,u.nO,u.y,λm c=>?_,u.lt⟩;rcases zhh.1 c with rfl|c;exact⟨bt,bs⟩;exact u.ms m c;simp[intOf];omega
   obtain rfl:j=S.length:=oa;rw[zhG] at s;gi_wp2;refine Qh rfl B ad a4 (λm c=>(s.ms m c).2) (λw' bM=>⟨⟨_,rfl⟩,o,?_⟩);have:=s.j;rw[zhc] at this;exact zb T _ _ _ _ this (bM.mono (λk _ w=>⟨bA k w,(s.ms k w).1⟩))
theorem QY (w:E)(k:∃a c b,v1=K a c b)(l:∃a c b,v2=K a c b):Uh V 192 #[Uf #[C neg,v1,v2]] w λe j=>∃d,e=.returned (.func (.func 226) #[] #[Ua (I ⟨d,0,U⟩)])/\w.heap.size<=d/\j.cell? ⟨d,1,U⟩=I v1/\j.cell? ⟨d,2,U⟩=I v2/\ziE w j:=by
 obtain⟨a,c,b,rfl⟩:=k;obtain⟨f,h,g,rfl⟩:=l;have i:H ((w.alloc (Ub #[C neg,K a c b,K f h g] 252)).cell? ⟨w.heap.size,1,U⟩=I (K a c b)/\(w.alloc (Ub #[C neg,K a c b,K f h g] 252)).cell? ⟨w.heap.size,2,U⟩=I (K f h g)/\ziE w (w.alloc (Ub #[C neg,K a c b,K f h g] 252))):=⟨zm w _ rfl _ _ 1 _ rfl,zm w _ rfl _ _ 2 _ rfl,(zf.refl _ _).alloc _⟩
 go_enter func192,ntmps192;go_wp2_with fail;go_ret;exact⟨_,rfl,zgH _,i.1,i.2.1,i.2.2⟩
theorem qt.slice {A:Nat->Prop}{v:Y}{n:Nat}{xs:List Y}(h:qt w A v n xs):∃a c b,v=K a c b:=by rcases h with⟨rfl,_⟩|⟨g,d,rfl,_⟩<;>exact⟨_,_,_,rfl⟩
theorem zfe (b:Nat)(v1 v2:Y)(R:List (Int×Int))(S:List Int)(A:Nat->Prop)(w:E)(h:ClsBox w A b v1 v2 R S)(_q:∀k,A k->k<w.heap.size)(d:∀a∈S,okSh a)(o:R.length<=1000)(p:S.length<=1000):Uh V 166 #[.func (.func 226) #[] #[Ua (I ⟨b,0,U⟩)]] w λe j=>∃v,e=.returned v/\yp w j v (λc=>Cs.isCh c && Eqv.jZ R S c):=by have l:∀i w,(callFunc 226 i).run V w=.ok (.enter 226 i) w:=enters_of func226 om rfl;have r:=zaT S (λa f=>(sh_ok a (d a f)).2.2);refine(zcX _ _ (R++S.flatMap shL) (λk=>k=b\/(A k/\k<w.heap.size)) w l (zaU v1 v2 R S A b w h d o p 8 oa) (λk g=>?_) (by simp only[zgK];omega)).mono ?_;rcases g with rfl|g;exact zgF w _ h.c1;exact g.2;rintro e j ⟨v,rfl,m,n⟩;exact⟨v,rfl,⟨m.congr (λc=>zf4 (λc=>VM c S (λa f=>(sh_ok a (d a f)).2.1)) c),n⟩⟩
theorem WO (A:Nat->Prop)(w:E)(x:qt w A v1 R.length (rangeCells R))(y:qt w A v2 S.length (jE S))(hS:∀a∈S,okSh a)(hR:R.length<=1000)(aq:S.length<=1000):Uh V 165 #[Uf #[C neg,v1,v2]] w λe w'=>∃v,e=.returned v/\yp w w' v (kT (vG neg R S)):=by
 have ar:=x.slice;have au:=y.slice;obtain⟨pa,pn,pc,rfl⟩:=ar;obtain⟨qa,qn,qc,rfl⟩:=au;have H1:=ze x;have H2:=ze y;clear x y;go_enter func165,ntmps165;go_wp2_with fail;generalize l:w.alloc (Ub #[C neg,K pa pn pc,K qa qn qc] 252)=j at *;have aa:j.heap.size=w.heap.size+1:=by rw[<-l];simp
 have u:H (ziE w j):=by rw[<-l];exact(zf.refl _ _).alloc _
 have am:H (j.cell? ⟨w.heap.size,0,U⟩=I (C neg)):=by rw[<-l];exact zm w _ rfl _ _ 0 _ rfl
 clear l;generalize ab:j.alloc (Ub #[K U 0 0] 161)=T at *;have W:H (ziE j T):=by rw[<-ab];exact(zf.refl _ _).alloc _
 refine(QY neg _ _ T ⟨_,_,_,rfl⟩ ⟨_,_,_,rfl⟩).mono ?_;rintro e q ⟨kb,rfl,X,h,i,L⟩;have F:ziE w q:=(u.trans W).trans L;have al:H (ClsBox q (λg=>A g/\g<q.heap.size) kb (K pa pn pc) (K qa qn qc) R S):=⟨h,i,((H1.keep F (λ_ _ f=>f)).mono (λg N z=>⟨z,N⟩)),((H2.keep F (λ_ _ f=>f)).mono (λg N z=>⟨z,N⟩))⟩
 have an:=ze L;clear F L h i;go_wp2_with fail;refine(zfe kb _ _ R S _ q al (λk X=>X.2) hS hR aq).mono ?_;rintro e P ⟨v,rfl,b⟩;obtain⟨m,o,n,rfl⟩:=b.1.slice;have s:=ze (b.later an);clear b;have r:H (ziE P (P.alloc (Ub #[K m o n] 161))):=(zf.refl _ _).alloc _;have c0:=((W.trans (s.2.trans r)).cell (p:=⟨w.heap.size,0,U⟩) (by show _<_;simp only;omega) id).trans am;have t:H (yp T (P.alloc (Ub #[K m o n] 161)) (Uf #[K m o n]) (λc=>Cs.isCh c && Eqv.jZ R S c)):=⟨s.1.keep r (λ_ _ f=>f),s.2.trans r⟩
 subst ab;cases neg
 .have b:=t.congr (zf6 R S);obtain⟨h,i⟩:=xk b.2;have d:=ze (xQ b);clear b;rw[aa] at h i d;go_wp2_with fail;refine bodyPost_ret (results_cell_row rfl _ _ (w.heap.size+1) 161 #[K m o n] (0,0) _ rfl d.2 underlying161 rfl Tryz.infoSet) rfl ?_;exact⟨_,rfl,d.1.later u⟩
 go_wp2_with fail;refine(Qe _ _ _ _ t.1).mono ?_;rintro e w4 ⟨v,rfl,B⟩;obtain⟨ta,tn,tc,rfl⟩:=B.1.slice;have b:=(yp.later B t.2).congr (zf5 R S);obtain⟨h,i⟩:=xk b.2;have d:=ze (xQ b);clear b B;rw[aa] at h i d;go_wp2_with fail;refine bodyPost_ret (results_cell_row rfl _ _ (w.heap.size+1) 161 #[K ta tn tc] (0,0) _ rfl d.2 underlying161 rfl Tryz.infoSet) rfl ?_;exact⟨_,rfl,d.1.later u⟩
def LeafOK (t:Sm.Tree):Prop:=(∀c,t=qJ c->okSh c)/\∀neg R S,t=vG neg R S->(∀a∈S,okSh a)/\R.length<=1000/\S.length<=1000
theorem zaV (v:Y)(t:Sm.Tree)(A:Nat->Prop)(w:E)(h:kF w A v t)(hn:∀c,t≠wO c)(y:LeafOK t):Uh V 120 #[v] w λe w'=>∃z,e=.returned z/\yp w w' z (kT t):=by
 have ak:H (ziE w (w.alloc (Ub #[K U 0 0] 161))):=(zf.refl _ _).alloc _;rcases h with⟨c,e,_⟩|⟨rfl,rfl⟩|⟨c,rfl,rfl⟩|⟨c,rfl,rfl⟩|⟨neg,R,S,v1,v2,rfl,rfl,o,p⟩;exact absurd e (hn c)
 .have d:=Tryz.as11;go_enter func120,ntmps120;go_wp2_with fail;clear d;refine(WN _).mono ?_;rintro e B ⟨v,rfl,l⟩;go_wp2_with fail;refine(Qe v _ _ B l.1).mono ?_;rintro e F ⟨v,rfl,x⟩;have a:=((yp.later x l.2).later ((zf.refl (λ_=>False) (w.alloc (Ub #[K U 0 0] 161))).alloc _)).congr any_P;clear l x;obtain⟨i,k,j,rfl⟩:=a.1.slice;obtain⟨r,s⟩:=xk a.2;have b:=ze (xQ a);clear a;go_wp2_with fail;refine bodyPost_ret (results_cell_row rfl _ _ w.heap.size 161 #[K i k j] (0,0) _ rfl b.2 underlying161 rfl Tryz.infoSet) rfl ?_;exact⟨_,rfl,b.1⟩
 .have d:=Tryz.as21;have m:=Tryz.as22;go_enter func120,ntmps120;go_wp2_with fail;clear d m;have u:=wh (K (I ⟨w.heap.size+1,0,U⟩) 1 1) [(c,c)] (λg=>g=w.heap.size+1) _ (Qf (w.alloc (Ub #[K U 0 0] 161)) (w.heap.size+1) ov [(c,c)] 265) ov;refine Calls.mono u ?_;clear u;rintro e F ⟨v,rfl,a⟩;have a:=(yp.later a ((zf.refl (λ_=>False) (w.alloc (Ub #[K U 0 0] 161))).alloc _)).congr (char_P c);obtain⟨i,k,j,rfl⟩:=a.1.slice;obtain⟨r,s⟩:=xk a.2;have b:=ze (xQ a);clear a;go_wp2_with fail;refine bodyPost_ret (results_cell_row rfl _ _ w.heap.size 161 #[K i k j] (0,0) _ rfl b.2 underlying161 rfl Tryz.infoSet) rfl ?_;exact⟨_,rfl,b.1⟩
 .have d:=Tryz.as31;have m:=Tryz.as32;have n:=Tryz.as33;go_enter func120,ntmps120;go_wp2_with fail;clear d m n;refine(XB c (y.1 c rfl) _).mono ?_;rintro e B ⟨v,rfl,l⟩;have a:=l.congr (short_P c);clear l;obtain⟨i,k,j,rfl⟩:=a.1.slice;obtain⟨r,s⟩:=xk a.2;have b:=ze (xQ a);clear a;go_wp2_with fail;refine bodyPost_ret (results_cell_row rfl _ _ w.heap.size 161 #[K i k j] (0,0) _ rfl b.2 underlying161 rfl Tryz.infoSet) rfl ?_;exact⟨_,rfl,b.1⟩
 have d:=Tryz.as41;have m:=Tryz.as42;have n:=Tryz.as43;have P:=Tryz.as44;obtain⟨T,W,X⟩:=y.2 neg R S rfl;have ab:=o.slice;have ac:=p.slice;obtain⟨pa,pn,pc,rfl⟩:=ab;obtain⟨ua,un,uc,rfl⟩:=ac;have L:=ze o;have N:=ze p;clear o p;go_enter func120,ntmps120;go_wp2_with fail;clear d m n P;have q:ziE w ((w.alloc (Ub #[K U 0 0] 161)).alloc (Ub #[C neg,K pa pn pc,K ua un uc] 252)):=((zf.refl _ _).alloc _).alloc _;refine(WO neg _ _ R S A _ (L.keep q (λ_ _ f=>f)) (N.keep q (λ_ _ f=>f)) T W X).mono ?_;clear q;rintro e F ⟨v,rfl,a⟩;have a:=yp.later a ((zf.refl (λ_=>False) (w.alloc (Ub #[K U 0 0] 161))).alloc _);obtain⟨i,k,j,rfl⟩:=a.1.slice;obtain⟨r,s⟩:=xk a.2;have b:=ze (xQ a);clear a;go_wp2_with fail;refine bodyPost_ret (results_cell_row rfl _ _ w.heap.size 161 #[K i k j] (0,0) _ rfl b.2 underlying161 rfl Tryz.infoSet) rfl ?_;exact⟨_,rfl,b.1⟩
end
