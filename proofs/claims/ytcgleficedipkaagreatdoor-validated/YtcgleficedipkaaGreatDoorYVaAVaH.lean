/- Validate, plain: right patterns; the document's answers to one pattern and one text. -/
import Derived.Test.YtcgleficedipkaaGreatDoorYLinAHeF
import Derived.Test.YtcgleficedipkaaGreatDoorYEndCEndG
namespace Go.Proofs.YtcgleficedipkaaGreatDoor
open Option renaming none->U,some->I
open Value renaming int->M,bool->C,pointer->Ua,string->Uc,tuple->Ue,agg->Uf
open IntKind renaming i64->J
open Bool renaming false->Z,true->G
open _root_.Go.Proofs.Tryz renaming prog->V
open Go renaming World->E,Value->Y,Calls->Uh
open Go.RowKit renaming Hid->H
open Or renaming inr->O,inl->Q
open Ending renaming returned->R
open Obj renaming cells->Ub
open Ref Eqv
open _root_.Go.Proofs.Tryz
variable (p s:ByteArray)(w:World){l:World}{v:Value}
section
open Go.RowKit
open Sm (Stp Tree)
set_option maxHeartbeats 1000000
structure Tk (s:ByteArray)(v:Int)(t:Tree)(ts:List Tok):Prop where
 v0:0<=v
 v1:v<300
 ok:TreeOK t
 ref:zaW s v ts
 pat:∀(w:E) (a:Nat->Addr),Start w a->zee s t v w
 tok:wK (qL 22) ts t.kids
 tb:∀x∈ts,kJ x
 len:ts.length<=1000
 k5:t.kind=5
def Bd (s:ByteArray):Prop:=∃(k:Nat) (p:Int),1<=k/\k<=8/\RefBad s k p/\(∀(w:E) (a:Nat->Addr),Start w a->PatBad s a k p w)/\zc0 s=Z
theorem tells:Bd s\/∃t v a,Tk s v t a:=by rcases zc1 s with h|⟨v,t,a,b,c,d,e,f,g,i,j,k⟩;exact Q h;exact O ⟨t,v,a,b,c,d,e,f,g,i,j,k⟩
open Classical in
noncomputable def jb (s:ByteArray):Option Tree:=if h:∃t v a,Tk s v t a then I (Classical.choose h) else U
theorem ZK {s:ByteArray}(h:jb s=U):Bd s:=by unfold jb at h;split at h;cases h;rename_i q;exact(tells s).resolve_right q
theorem ZL {s:ByteArray}{t:Tree}(h:jb s=I t):∃v a,Tk s v t a:=by
 unfold jb at h;split at h
 grind
 cases h
noncomputable def hitT (t:Tree)(s:ByteArray):Bool:=Classical.choose (AnsF.ex s t.kids)
theorem zcC (t:Tree)(s:ByteArray):∃k p,AnsF s t.kids (hitT t s) k p:=Classical.choose_spec (AnsF.ex s t.kids)
noncomputable def vU (p s:ByteArray):Bool:=match jb p with
 |none=>Z
 |some t=>hitT t s
theorem zdV:Uh V 151 #[Uc p] w λx l=>x=R (C (jb p).isSome)/\ziE w l:=by
 cases hp:jb p with
 |none=>
  obtain⟨k,q,i,j,c,_⟩:=ZK hp;have a:=ze c;have f:((k:Int) == 0)=Z:=by simp;omega
  clear hp c;go_enter func151,ntmps151;go_wp2_with(go_at_call 53;refine(zb a _).mono ?_;rintro e d ⟨rfl,b⟩);go_ret;exact⟨rfl,b⟩
 |some t=>
  obtain⟨v,m,h⟩:=ZL hp;have a:=ze h.ref;clear hp h;go_enter func151,ntmps151;go_wp2_with(go_at_call 53;refine(zb a _).mono ?_;rintro e d ⟨g,rfl,b,_⟩);go_ret;exact⟨rfl,b⟩
theorem X9:Uh V 152 #[Uc p,Uc s] w λx l=>x=R (C (vU p s))/\ziE w l:=by
 unfold vU;cases hp:jb p with
 |none=>
  obtain⟨k,q,W,X,o,_⟩:=ZK hp;have d:=ze o;have T:((k:Int) != 0)=G:=by simp;omega
  clear hp o;go_enter func152,ntmps152;go_wp2_with(go_at_call 53;refine(zb d _).mono ?_;rintro e a ⟨rfl,f⟩);go_ret;exact⟨rfl,f⟩
 |some t=>
  obtain⟨v,S,h⟩:=ZL hp;obtain⟨k,q,m⟩:=zcC t s;simp only[];generalize hitT t s=r at *;have d:=ze h.ref;have u:H (∀(i a:E) (g:Nat) (b:Y),i.heap.size<=g->a.cell? ⟨g,0,U⟩=I b->xW a i.heap.size b S->Uh V 57 #[Ua (I ⟨g,0,U⟩),Uc s] a λx l=>x=R (Ue #[C r,M J k,M J q])/\ziE a l):=λi a g b _ n c=>by refine rfindF m ⟨?_,h.tok,h.tb,h.len⟩;rcases TokSl.of c with⟨rfl,rfl⟩|⟨L,z,rfl,B,F⟩;exact⟨U,0,n,Q ⟨rfl,rfl⟩⟩;exact⟨_,_,n,O ⟨L,z,rfl,B,F⟩⟩
  clear hp h m;go_enter func152,ntmps152;go_wp2_with(first|(go_at_call 53;refine(zb d _).mono ?_;rintro e a ⟨g,rfl,f,P,_,b,j,c⟩;have y:=ze c;have H0:=ze j;clear c j)|(go_at_call 57;refine(zb u _ _ _ b P H0 y).mono ?_;rintro e w2 ⟨rfl,N⟩));go_ret;exact⟨rfl,f.trans N⟩
set_option maxHeartbeats 4000000
set_option maxRecDepth 1000000
def Says (w:E)(Q:Prop)(x:Ending)(l:E):Prop:=∃b:Bool,x=R (C b)/\(b=G↔Q)/\ziE w l
structure Nd where
 kind:Int
 parent:Int
 key:ByteArray
 text:ByteArray
def Nd.cells (n:Nd):List Y:=[M J n.kind,M J n.parent,Uc n.key,Uc n.text]
def vA (w:E)(v:Y)(ns:List Nd):Prop:=∃a d,v=.slice a ns.length d/\∀(i:Nat) n,ns[i]?=I n->∃b c,a=I ⟨b,c,U⟩/\∀(j:Nat) u,n.cells[j]?=I u->w.cell? ⟨b,c+i*4+j,U⟩=I u
variable {w}
theorem vA.keep {ns:List Nd}(h:vA w v ns)(k:ziE w l):vA l v ns:=by obtain⟨a,c,d,g⟩:=h;refine⟨a,c,d,λi n o=>?_⟩;obtain⟨b,q,e,m⟩:=g i n o;exact⟨b,q,e,λj u p=>zg k _ _ (m j u p) id⟩
def txB (s:ByteArray):Bool:=decide ((zF s).2<0) && decide (s.size<=400)
def Nd.own (n:Nd):Prop:=txB n.key=G/\txB n.text=G/\0<=n.kind/\n.kind<=5/\(n.kind=3\/n.text.toList=[])
def Nd.there (ns:List Nd)(k:Nat)(n:Nd):Prop:=
 if k=0 then n.parent = -1/\n.key.toList=[] else 0<=n.parent/\n.parent<k/\∃p,ns[n.parent.toNat]?=I p/\(if p.kind=5 then ∀(i:Nat) m,1<=i->i<k->ns[i]?=I m->¬(m.parent=n.parent/\m.key.toList=n.key.toList) else p.kind=4/\n.key.toList=[])
def xI (ns:List Nd)(k:Nat):Prop:=∃n,ns[k]?=I n/\n.own/\n.there ns k
theorem WG (w:E):Uh V 110 #[Uc s] w λx l=>∃a n c e p,x=R (Ue #[.slice a n c,M J e,M J p])/\(e != 0) = !txB s/\ziE w l:=by by_cases d:s.size<=400;by_cases f:0<=(zF s).2;refine(zbt s w d f).mono ?_;rintro x l ⟨rfl,b⟩;exact⟨_,_,_,_,_,rfl,by unfold txB;rw[decide_eq_false (p:=(zF s).2<0) oa];rfl,b⟩;refine(zek s w d oa).mono ?_;rintro x l ⟨g,h,rfl,_,b⟩;exact⟨_,_,_,_,_,rfl,by unfold txB;rw[decide_eq_true (p:=(zF s).2<0) oa,decide_eq_true d];rfl,b⟩;refine(V4 s w oa).mono ?_;rintro x l ⟨rfl,b⟩;exact⟨_,_,_,_,_,rfl,by unfold txB;rw[decide_eq_false d,Bool.and_false];rfl,b⟩
theorem zgn (ns:List Nd)(v:Y)(k:Nat)(w:E)(hN:vA w v ns)(hk:k<ns.length)(hl:ns.length<=40):Uh V 104 #[v,M J (k:Nat)] w (Says w (xI ns k)):=by
 obtain⟨a,a4,rfl,hC⟩:=hN;obtain⟨aC,aM,rfl,X⟩:=hC k ns[k] (zgE hk);have hn:=zgE hk;generalize ns[k]=n at *;obtain⟨o,d,l,r⟩:=n;have c0:w.cell? ⟨aC,aM+k*4,U⟩=I (M J o):=X 0 _ rfl;have c1:=X 1 _ rfl;have c2:=X 2 _ rfl;have c3:=X 3 _ rfl;have HC:=ze hC;have HX:H (∀b:Bool,(b=G↔Nd.own ⟨o,d,l,r⟩/\Nd.there ns k ⟨o,d,l,r⟩)->(b=G↔xI ns k)):=λb y=>y.trans ⟨λh=>⟨_,hn,h⟩,λ⟨m,h1,h2⟩=>by cases hn.symm.trans h1;exact h2⟩;clear hC X hn;have HB:H (∀W,ziE (w.alloc (Ub #[M J o,M J d,Uc l,Uc r] 41)) W->W.cell? ⟨w.heap.size,0,U⟩=I (M J o)/\W.cell? ⟨w.heap.size,1,U⟩=I (M J d)/\W.cell? ⟨w.heap.size,2,U⟩=I (Uc l)/\W.cell? ⟨w.heap.size,3,U⟩=I (Uc r)):=λW k=>⟨zg k _ _ (zm w _ rfl _ _ 0 _ rfl) id,zg k _ _ (zm w _ rfl _ _ 1 _ rfl) id,zg k _ _ (zm w _ rfl _ _ 2 _ rfl) id,zg k _ _ (zm w _ rfl _ _ 3 _ rfl) id⟩
 go_enter func104,ntmps104;go_upto_region 3 with(go_at_call 110;refine(WG l _).mono ?_;rintro e w1 ⟨_,_,_,e1,p1,rfl,aG,ap⟩;obtain⟨y0,y1,y2,y3⟩:=zb HB w1 ap);go_upto_region 4 with(go_at_call 110;refine(WG r _).mono ?_;rintro e w2 ⟨_,_,_,e2,p2,rfl,aH,aF⟩;have aq:=ap.trans aF;clear y0 y1 y2 y3;obtain⟨y0,y1,y2,y3⟩:=zb HB w2 aq);have t:H (ziE w w2):=((zf.refl _ _).alloc _).trans aq;have HV:H (Nd.own ⟨o,d,l,r⟩↔e1=0/\e2=0/\0<=o/\o<=5/\(o=3\/r.toList=[])):=by
  have t1:txB l=G↔e1=0:=by rw[<-Bool.not_eq_false',<-aG];simp
  have t2:txB r=G↔e2=0:=by rw[<-Bool.not_eq_false',<-aH];simp
  show _↔_;unfold Nd.own;rw[t1,t2]
 clear c0 c1 c2 c3 ap aF aq aG aH;go_cut[7,10,57] (λ_ _ c wx=>(∃b:Bool,c=C b/\(b=G↔¬Nd.own ⟨o,d,l,r⟩))/\wx=w2)
 case first=>
  go_wp2_with fail;all_goals go_meet
  all_goals
   refine⟨⟨_,rfl,?_⟩,rfl⟩;rw[zb HV];clear y0 y1 y2 y3;simp[*]
   try omega
 case rest=>
  obtain⟨⟨b,rfl,y⟩,rfl⟩:=hcut;have HY:=ze HX;cases b
  .have ho:Nd.own ⟨o,d,l,r⟩:=Classical.byContradiction λc=>(by simpa using y.2 c);have ac:H (∀b:Bool,(b=G↔Nd.there ns k ⟨o,d,l,r⟩)->(b=G↔xI ns k)):=λb h=>zb HX b (h.trans ⟨λq=>⟨ho,q⟩,λq=>q.2⟩);clear y ho HX HY HV;by_cases aJ:k=0
   ·(subst aJ;have N:H (Nd.there ns 0 ⟨o,d,l,r⟩↔d = -1/\l.toList=[]):=(by show _↔_;unfold Nd.there;rw[IN rfl]);go_wp2_with fail;all_goals go_ret);all_goals exact⟨_,rfl,zb ac _ (by rw[zb N];simp[*]),t⟩
   have a7:((k:Int) == 0)=Z:=ou;have N:H (Nd.there ns k ⟨o,d,l,r⟩↔0<=d/\d<k/\∃p,ns[d.toNat]?=I p/\(if p.kind=5 then ∀(i:Nat) m,1<=i->i<k->ns[i]?=I m->¬(m.parent=d/\m.key.toList=l.toList) else p.kind=4/\l.toList=[])):=(by show _↔_;unfold Nd.there;rw[iN aJ]);by_cases hp:0<=d/\d<k
   .obtain⟨m,rfl⟩:∃m:Nat,d=m:=⟨d.toNat,oa⟩
    have aK:m<ns.length:=oa;have a9:(m:Int)<(k:Int):=hp.2;obtain⟨aO,aZ,e',ar⟩:=zb HC m ns[m] (zgE aK);cases e';have ag:=zgE aK;generalize ns[m]=p at ar ag;have d0:wc.cell? ⟨aC,aM+m*4,U⟩=I (M J p.kind):=zg t _ _ (ar 0 _ rfl) id;have P:H (∀b:Bool,(b=G↔if p.kind=5 then ∀(i:Nat) q,1<=i->i<k->ns[i]?=I q->¬(q.parent=m/\q.key.toList=l.toList) else p.kind=4/\l.toList=[])->(b=G↔xI ns k)):=λb y=>zb ac b (y.trans (N.trans ⟨λ⟨_,_,q,T,g2⟩=>by rw[zhm,ag] at T;cases T;exact g2,λg=>⟨oa,oa,p,by rw[zhm];exact ag,g⟩⟩).symm);clear hp ar ag N ac;by_cases L:p.kind=5
    .have aV:(p.kind != 5)=Z:=(by simp[L]);rw[IN L] at P;clear L;go_wp2_with fail;go_loopw[13] (λx wr=>∃i:Nat,x=M J i/\1<=i/\i<=k/\H (ziE wc wr)/\H (∀(j:Nat) q,1<=j->j<i->ns[j]?=I q->¬(q.parent=m/\q.key.toList=l.toList))) (λx _=>k-(intOf x).toNat);exact⟨1,rfl,oa,oa,zf.refl _ _,λj _ T g2=>oa⟩;obtain⟨i,rfl,T,g2,u,HD⟩:=hrel;replace y1:=zg u _ _ y1 id;replace y2:=zg u _ _ y2 id;clear y0 y3 d0;by_cases aX:i<k
     .obtain⟨aO,aZ,e',ae⟩:=zb HC i ns[i] (zgE oa);cases e';have aw:=zgE (show i<ns.length by omega);generalize ns[i]=q at ae aw;have d1:=zg (t.trans u) _ _ (ae 1 _ rfl) id;have d2:=zg (t.trans u) _ _ (ae 2 _ rfl) id;have HQ:=ze aw;clear ae aw;by_cases F:q.parent=m
      .have aY:(q.parent == (m:Int))=G:=(by simp[F]);cases hk2:(q.key.toList == l.toList)
       ·(have HN:H (∀(j:Nat) s,1<=j->j<i+1->ns[j]?=I s->¬(s.parent=m/\s.key.toList=l.toList)):=λj s S a2 B=>by by_cases c:j<i;exact zb HD j s S c B;obtain rfl:j=i:=oa;cases(zb HQ).symm.trans B;intro c;rw[c.2] at hk2;simp at hk2);clear F;go_wp2_with fail;go_region;go_wp2_with fail;exact⟨⟨i+1,by go_num,oa,oa,u.drewN _,HN⟩,by simp[intOf];omega⟩
       have z:H (Z=G↔xI ns k):=zb P Z (Iff.intro (λc=>by cases c) (λc=>absurd ⟨F,by simpa using hk2⟩ (c i q T aX HQ)));clear F;go_wp2_with fail;go_region;go_wp2_with fail;go_ret;exact⟨_,rfl,z,t.trans (u.drewN _)⟩
      (have aY:(q.parent == (m:Int))=Z:=(by simp[F]);have HN:H (∀(j:Nat) s,1<=j->j<i+1->ns[j]?=I s->¬(s.parent=m/\s.key.toList=l.toList)):=λj s S a2 B=>by by_cases c:j<i;exact zb HD j s S c B;obtain rfl:j=i:=oa;cases(zb HQ).symm.trans B;exact λc=>F c.1);clear F;go_wp2_with fail;go_region;go_wp2_with fail;exact⟨⟨i+1,by go_num,oa,oa,u.drewN _,HN⟩,by simp[intOf];omega⟩
     have z:H (xI ns k):=(zb P G (Iff.intro (λ_ j q S a2 B=>zb HD j q S oa B) (λ_=>rfl))).1 rfl;go_wp2_with fail;go_ret;exact⟨_,rfl,⟨λ_=>zb z,λ_=>rfl⟩,t.trans u⟩
    (have aV:(p.kind != 5)=G:=(by simp[L]);rw[iN L] at P;clear L;go_wp2_with fail;all_goals go_ret);all_goals exact⟨_,rfl,zb P _ (by simp[*]),t⟩
   have z:H (Z=G↔xI ns k):=zb ac Z (N.trans ⟨λq=>absurd ⟨q.1,q.2.1⟩ hp,λq=>by cases q⟩).symm;have av:d<0\/(0<=d/\(k:Int)<=d):=oa;clear hp;rcases av with av|⟨av,ba⟩
   all_goals
    go_wp2_with fail;go_ret;exact⟨_,rfl,z,t⟩
  have z:H (Z=G↔xI ns k):=zb HX Z (Iff.intro (λq=>by cases q) (λq=>absurd q.1 (y.1 rfl)));clear y;go_wp2_with fail;go_ret;exact⟨_,rfl,z,t⟩
structure Sc where
 hp:Bool
 pat:ByteArray
 fmt:Int
 keys:List ByteArray
 subs:List Int
 more:Int
theorem YF.keep {a:List ByteArray}(h:YF w v a)(k:ziE w l):YF l v a:=by rcases h with h|⟨g,m,b,c,d,e⟩;exact Q h;exact O ⟨g,m,b,c,zgJ d k.size,λj s i=>zg k _ _ (e j s i) id⟩
structure ScL (w:E)(s:Sc)(ka:Option Addr)(kc:Nat)(sa:Option Addr)(sc:Nat):Prop where
 k:YF w (.slice ka s.keys.length kc) s.keys
 s:km w (λ_=>True) (.slice sa s.subs.length sc) s.subs
theorem ScL.keep {w l:E}{s:Sc}{a b:Option Addr}{kc c:Nat}(h:ScL w s a kc b c)(k:ziE w l):ScL l s a kc b c:=⟨h.k.keep k,h.s.keep k (λ_ _ f=>f)⟩
def Sc.val (s:Sc)(a:Option Addr)(kc:Nat)(b:Option Addr)(c:Nat):Y:=Uf #[C s.hp,Uc s.pat,M J s.fmt,.slice a s.keys.length kc,.slice b s.subs.length c,M J s.more]
def Zq (f:Int):ByteArray:=if 1<=f/\f<=5 then fmtS f.toNat else fmtS 6
theorem zcD (f:Int)(w:E):Uh V 153 #[M J f] w λx l=>x=R (Uc (Zq f))/\l=w:=by
 by_cases h:1<=f/\f<=5
 .obtain rfl|rfl|rfl|rfl|rfl:f=1\/f=2\/f=3\/f=4\/f=5:=by omega
  all_goals
   clear h;go_enter func153,ntmps153;go_wp2_with fail;go_ret;exact⟨rfl,rfl⟩
 have e:Zq f=fmtS 6:=iN h;rw[e];have a:(f == 1)=Z:=by simp;omega
 have b:(f == 2)=Z:=by simp;omega
 have c:(f == 3)=Z:=by simp;omega
 have d:(f == 4)=Z:=by simp;omega
 have g:(f == 5)=Z:=by simp;omega
 clear h e;go_enter func153,ntmps153;go_wp2_with fail;go_ret;exact⟨rfl,rfl⟩
theorem zdW (s:Sc)(t:ByteArray)(o:Option Addr)(kc:Nat)(p:Option Addr)(q:Nat)(w:E):Uh V 107 #[s.val o kc p q,Uc t] w λx l=>x=R (Ue #[C (s.hp && !vU s.pat t),C ((s.fmt != 0) && !vU (Zq s.fmt) t)])/\ziE w l:=by
 obtain⟨h,i,a,y,z,more⟩:=s;unfold Sc.val;simp only[];have m:=ze (X9 i t);have d:=ze (X9 (Zq a) t);generalize vU i t=F at *;generalize vU (Zq a) t=L at *;generalize n:Zq a=u at *;have HG:H (∀W,Uh V 153 #[M J a] W λx l=>x=R (Uc u)/\l=W):=λW=>by rw[<-n];exact zcD a W
 clear n;have j:H (∀W,ziE (w.alloc (Ub #[C h,Uc i,M J a,.slice o y.length kc,.slice p z.length q,M J more] 39)) W->W.cell? ⟨w.heap.size,2,U⟩=I (M J a)):=λW k=>zg k _ _ (zm w _ rfl _ _ 2 _ rfl) id;by_cases c:a=0
 .have g:(a != 0)=Z:=by simp[c]
  rw[g];clear c d HG;cases h
  .go_enter func107,ntmps107;go_wp2_with fail;go_ret2;exact⟨rfl,(zf.refl _ _).alloc _⟩
  go_enter func107,ntmps107;go_wp2_with(go_at_call 152;refine(zb m _).mono ?_;rintro e r ⟨rfl,b⟩;have B:=zb j _ b);go_ret2;exact⟨ov,((zf.refl _ _).alloc _).trans b⟩
 have g:(a != 0)=G:=by simp[c]
 rw[g];clear c;cases h
 .go_enter func107,ntmps107;go_wp2_with(first|(go_at_call 153;refine ziD (zb HG _) ?_)|(go_at_call 152;refine(zb d _).mono ?_;rintro e r ⟨rfl,b⟩));go_ret2;exact⟨ov,((zf.refl _ _).alloc _).trans b⟩
 go_enter func107,ntmps107;go_upto_region 5 with(go_at_call 152;refine(zb m _).mono ?_;rintro e r ⟨rfl,b⟩;have B:=zb j _ b);go_wp2_with(first|(go_at_call 153;refine ziD (zb HG _) ?_)|(go_at_call 152;refine(zb d _).mono ?_;rintro e N ⟨rfl,v⟩));go_ret2;exact⟨ov,(((zf.refl _ _).alloc _).trans b).trans v⟩
noncomputable def Sc.hits (s:Sc)(key:ByteArray):Nat->List Int
 |0=>[]
 |i+1=>s.hits key i++(if vU (s.keys.getD i ⟨#[]⟩) key then [s.subs.getD i 0] else [])
theorem Sc.hits_len (s:Sc)(key:ByteArray):∀i,(s.hits key i).length<=i
 |0=>zgH _
 |i+1=>by
  have:=s.hits_len key i;simp only[Sc.hits,zgK];split<;>simp<;>omega
noncomputable def Sc.agn (s:Sc)(key:ByteArray):List Int×Bool:=
 if s.hits key s.keys.length≠[]\/s.more = -2 then(s.hits key s.keys.length,Z) else if s.more = -1 then([],G) else([s.more],Z)
def yr (l:List Int):List Y:=l.map (M J)
theorem zaD (s:Sc)(key:ByteArray)(q:Option Addr)(kc:Nat)(r:Option Addr)(t:Nat)(w:E)(hL:ScL w s q kc r t)(he:s.keys.length<=s.subs.length)(hl:s.keys.length<=6):Uh V 106 #[s.val q kc r t,Uc key] w λx l=>∃B,x=R (Ue #[B,C (s.agn key).2])/\l.ownsRow w.heap.size 3 1 B (s.agn key).1.length (yr (s.agn key).1)/\ziE w l:=by
 obtain⟨i0,ax,aC,aD,aE⟩:=info_parts Tryz.infoInt;have HL:=ze hL;have S:H (∀W,ziE (w.alloc (Ub #[C s.hp,Uc s.pat,M J s.fmt,.slice q s.keys.length kc,.slice r s.subs.length t,M J s.more] 39)) W->W.cell? ⟨w.heap.size,3,U⟩=I (.slice q s.keys.length kc)/\W.cell? ⟨w.heap.size,4,U⟩=I (.slice r s.subs.length t)/\W.cell? ⟨w.heap.size,5,U⟩=I (M J s.more)):=λW k=>⟨zg k _ _ (zm w _ rfl _ _ 3 _ rfl) id,zg k _ _ (zm w _ rfl _ _ 4 _ rfl) id,zg k _ _ (zm w _ rfl _ _ 5 _ rfl) id⟩
 have v:H (ziE w (w.alloc (Ub #[C s.hp,Uc s.pat,M J s.fmt,.slice q s.keys.length kc,.slice r s.subs.length t,M J s.more] 39))):=(zf.refl _ _).alloc _;clear hL;unfold Sc.val;go_enter func106,ntmps106;go_wp2_with fail;generalize aw:w.alloc (Ub #[C s.hp,Uc s.pat,M J s.fmt,.slice q s.keys.length kc,.slice r s.subs.length t,M J s.more] 39)=W at *;clear aw;go_loopw[6,7] (λB x wr=>∃i:Nat,x=M J i/\i<=s.keys.length/\H (ziE W wr)/\H (wr.ownsRow W.heap.size 3 1 B (s.hits key i).length (yr (s.hits key i)))) (λ_ x _=>s.keys.length-(intOf x).toNat);exact⟨0,rfl,oa,zf.refl _ _,zgP _ _ _ _⟩;obtain⟨i,rfl,hi,h,n⟩:=hrel;obtain⟨y3,y4,y5⟩:=zb S wr h;obtain⟨la,ln,lc,rfl⟩:=zr n;have aA:ln=(s.hits key i).length:=by rcases(zb n).2 with⟨e,h0⟩|⟨g,aK,aL,e,_⟩<;>cases e;exact h0.symm;rfl
 subst aA;by_cases ah:i<s.keys.length
 ·(obtain⟨gk,ok,rfl,_,ad⟩:=(HL.k).get ah;obtain⟨gs,os,rfl,ae⟩:=(HL.s).get (show i<s.subs.length by omega);have ek:=zg (v.trans h) _ _ ad id;have es:=zg (v.trans h) _ _ ae id;have hh:s.hits key (i+1)=s.hits key i++(if vU s.keys[i] key then [s.subs[i]' oa] else []):=by simp only[Sc.hits];rw[zg3,zgE ah,zg3,zgE (show i<s.subs.length by omega)];rfl);have X:=ze hh;have T:=ze (X9 s.keys[i] key);generalize vU s.keys[i] key=b at *;generalize s.keys[i]=kk at *;generalize s.subs[i]=ss at *;clear ad ae hh;have az:=s.hits_len key i;cases b
  .have F:H (s.hits key (i+1)=s.hits key i):=(by show _=_;rw[zb X];simp);go_wp2_with(go_at_call 152;refine(zb T _).mono ?_;rintro e w1 ⟨rfl,p⟩);exact⟨⟨i+1,by go_num,oa,h.trans p,by rw[zb F];exact zl n p (λ_ _ f=>f)⟩,by simp[intOf];omega⟩
  have F:H (s.hits key (i+1)=s.hits key i++[ss]):=(by show _=_;rw[zb X];simp);go_wp2_with(first|(go_at_call 152;refine(zb T _).mono ?_;rintro e w1 ⟨rfl,p⟩;have N:=ze (h.trans p);have ab:=ze (zl n p (λ_ _ f=>f));clear y3 y4 y5;obtain⟨y3,y4,y5⟩:=zb S w1 N;have aN:=zg p _ _ es id)|(at_builtin;refine zb ?_));refine ze ?_;have ai:=v.size;have aU:=N.size;refine yq _ rfl _ _ 27 rfl W.heap.size 3 i0 (M J 0) 1 8 underlying27 ax aC aD aE rfl od (.slice la (s.hits key i).length lc) _ (yr (s.hits key i)) rfl (zgO ab _) _ 1 1 [M J ss] rfl rfl (cell_one_new _ _ _) (λx hx=>by simp at hx;subst hx;rfl) (by unfold maxLen;omega) oa ou ?_;intro v2 w2 P af aB;have ap:H (ziE W w2):=((N.alloc _).grown af (λj hj=>O (by have:=(zh ab j hj).1;omega)))
  (have z:H (w2.ownsRow W.heap.size 3 1 v2 (s.hits key (i+1)).length (yr (s.hits key (i+1)))):=by show World.ownsRow _ _ _ _ _ _ _;rw[zb F];unfold yr;rw[zgK,zhO];exact P);obtain⟨va,vn,vc,rfl⟩:=zr P;clear P af aB;go_wp2_with fail;exact⟨⟨i+1,by go_num,oa,ap,z⟩,by simp[intOf];omega⟩
 (obtain rfl:i=s.keys.length:=oa;have az:=s.hits_len key s.keys.length;have ai:=v.size;have u:=ze (v.trans h);have z:=ze (zZ n ai);have a:s.agn key=if s.hits key s.keys.length≠[]\/s.more = -2 then(s.hits key s.keys.length,Z) else if s.more = -1 then([],G) else([s.more],Z):=rfl);generalize s.hits key s.keys.length=L at *;clear n h;by_cases d:L=[]/\¬s.more = -2
 .obtain⟨rfl,d⟩:=d;have d2:(s.more == -2)=Z:=(by simp[d]);rw[iN (by simp[d])] at a;by_cases o:s.more = -1
  .rw[IN o] at a;have d1:(s.more == -1)=G:=(by simp[o]);have m:=ze a;clear a o d;go_wp2_with fail;go_ret2;rw[zb m];exact⟨_,rfl,zgP _ _ _ _,u⟩
  rw[iN o] at a;have d1:(s.more == -1)=Z:=(by simp[o]);have m:=ze a;clear a o d;go_wp2_with fail;go_ret2;rw[zb m];refine⟨_,rfl,⟨rfl,O ⟨_,_,#[M J s.more],rfl,?_,?_,zgH _,by unfold maxLen;omega,rfl,rfl⟩⟩,u.alloc _⟩;have:=u.size;omega;exact zhR
 rw[IN (by rcases Classical.em (s.more = -2) with c|c;exact O c;exact Q (λe=>d ⟨e,c⟩))] at a;have m:=ze a;have y:(L=[]/\s.more = -2)\/0<L.length:=(by grind);clear a d;rcases y with⟨rfl,y⟩|y
 .have d2:(s.more == -2)=G:=(by simp[y]);clear y;go_wp2_with fail;go_ret2;rw[zb m];exact⟨_,rfl,z,u⟩
 have h4:(0:Int)<(L.length:Int):=oa;go_wp2_with fail;go_ret2;rw[zb m];exact⟨_,rfl,z,u⟩
def Sc.OK (s:Sc)(k m:Nat):Prop:=
 (0<=s.fmt/\s.fmt<=6/\s.keys.length=s.subs.length/\s.keys.length<=6)/\(s.more = -2\/s.more = -1\/((k:Int)<s.more/\s.more<m))/\(s.hp=G->(jb s.pat).isSome=G)/\
 ∀i,i<s.keys.length->(jb (s.keys.getD i ⟨#[]⟩)).isSome=G/\(k:Int)<s.subs.getD i 0/\s.subs.getD i 0<m
theorem zcE (s:Sc)(k m:Nat)(u:Option Addr)(kc:Nat)(v:Option Addr)(y:Nat)(w:E)(hL:ScL w s u kc v y):Uh V 105 #[s.val u kc v y,M J (k:Nat),M J (m:Nat)] w (Says w (s.OK k m)):=by
 have S:=ze hL;have r:H (∀W,ziE (w.alloc (Ub #[C s.hp,Uc s.pat,M J s.fmt,.slice u s.keys.length kc,.slice v s.subs.length y,M J s.more] 39)) W->W.cell? ⟨w.heap.size,3,U⟩=I (.slice u s.keys.length kc)/\W.cell? ⟨w.heap.size,4,U⟩=I (.slice v s.subs.length y)):=λW k=>⟨zg k _ _ (zm w _ rfl _ _ 3 _ rfl) id,zg k _ _ (zm w _ rfl _ _ 4 _ rfl) id⟩
 have h:H (ziE w (w.alloc (Ub #[C s.hp,Uc s.pat,M J s.fmt,.slice u s.keys.length kc,.slice v s.subs.length y,M J s.more] 39))):=(zf.refl _ _).alloc _;clear hL;unfold Sc.val;go_enter func105,ntmps105;go_upto_region 1 with fail;generalize F:w.alloc (Ub #[C s.hp,Uc s.pat,M J s.fmt,.slice u s.keys.length kc,.slice v s.subs.length y,M J s.more] 39)=W at *;have P:W.cell? ⟨w.heap.size,0,U⟩=I (C s.hp):=by rw[<-F];exact zm w _ rfl _ _ 0 _ rfl
 have y1:W.cell? ⟨w.heap.size,1,U⟩=I (Uc s.pat):=by rw[<-F];exact zm w _ rfl _ _ 1 _ rfl
 have y2:W.cell? ⟨w.heap.size,2,U⟩=I (M J s.fmt):=by rw[<-F];exact zm w _ rfl _ _ 2 _ rfl
 have y5:W.cell? ⟨w.heap.size,5,U⟩=I (M J s.more):=by rw[<-F];exact zm w _ rfl _ _ 5 _ rfl
 obtain⟨n,o⟩:=zb r W (zf.refl _ _);clear F;go_cut[32] (λc N=>(∃b:Bool,c=C b/\(b=G↔¬(0<=s.fmt/\s.fmt<=6/\s.keys.length=s.subs.length/\s.keys.length<=6)))/\N=W)
 case first=>
  clear P y1 y5;go_wp2_with fail;all_goals go_meet
  all_goals
   refine⟨⟨_,rfl,?_⟩,rfl⟩;clear y2 n o r h S;simp[*]
   try omega
 case rest=>
  obtain⟨⟨b,rfl,p⟩,rfl⟩:=hcut;cases b
  .have B:0<=s.fmt/\s.fmt<=6/\s.keys.length=s.subs.length/\s.keys.length<=6:=Classical.byContradiction λc=>(by simpa using p.2 c);clear p;go_upto_region 3 with fail;go_cut[0,52] (λ_ c N=>(∃b:Bool,c=C b/\(b=G↔¬(s.more = -2\/s.more = -1\/((k:Int)<s.more/\s.more<m))))/\N=wc)
   case first=>
    clear P y1 y2 n o r h S B;go_wp2_with fail;all_goals go_meet
    all_goals
     refine⟨⟨_,rfl,?_⟩,rfl⟩;clear y5;simp[*]
     try omega
   case rest=>
    obtain⟨⟨b,rfl,p⟩,rfl⟩:=hcut;cases b
    .have hM:s.more = -2\/s.more = -1\/((k:Int)<s.more/\s.more<m):=Classical.byContradiction λc=>(by simpa using p.2 c);have aG:=B.2.2.2;have aH:s.keys.length<=s.subs.length:=oa;have HQ:H ((s.hp=G->(jb s.pat).isSome=G)/\(∀i,i<s.keys.length->(jb (s.keys.getD i ⟨#[]⟩)).isSome=G/\(k:Int)<s.subs.getD i 0/\s.subs.getD i 0<m)↔s.OK k m):=⟨λq=>⟨B,hM,q⟩,λq=>q.2.2⟩
     clear p B hM;have HT:=ze zdV;generalize wc=W1 at *;go_upto_if 54 with fail;go_cut[6] (λ_ N=>H (s.hp=G->(jb s.pat).isSome=G)/\H (ziE W1 N))
     case first=>
      cases hh:s.hp
      .rw[hh] at P;have z:H (s.hp=G->(jb s.pat).isSome=G):=λq=>(by rw[hh] at q;cases q);clear hh;go_wp2_with fail;go_meet
       case rel=>exact⟨z,zf.refl _ _⟩
      rw[hh] at P;cases hp:(jb s.pat).isSome
      .have a:H (∀W,Uh V 151 #[Uc s.pat] W λx l=>x=R (C Z)/\ziE W l):=λW=>(by rw[<-hp];exact zb HT s.pat W);have g:H (¬s.OK k m):=λq=>(by have:=q.2.2.1 hh;rw[hp] at this;cases this);clear hh hp;go_wp2_with(go_at_call 151;refine(zb a _).mono ?_;rintro e t ⟨rfl,d⟩);go_ret;exact⟨_,rfl,Iff.intro (λq=>Bool.noConfusion q) (λq=>absurd q g),h.trans d⟩
      have a:H (∀W,Uh V 151 #[Uc s.pat] W λx l=>x=R (C G)/\ziE W l):=λW=>(by rw[<-hp];exact zb HT s.pat W);have z:H (s.hp=G->(jb s.pat).isSome=G):=λ_=>hp;clear hh hp;go_wp2_with(go_at_call 151;refine(zb a _).mono ?_;rintro e t ⟨rfl,d⟩);go_meet
      case rel=>exact⟨z,d⟩
     case rest=>
      obtain⟨z,HO⟩:=hcut;generalize wc=W2 at *;clear P y1 y2 n o y5;go_wp2_with fail;go_loopw[8] (λx wr=>∃i:Nat,x=M J i/\i<=s.keys.length/\H (ziE W1 wr)/\H (∀j,j<i->(jb (s.keys.getD j ⟨#[]⟩)).isSome=G/\(k:Int)<s.subs.getD j 0/\s.subs.getD j 0<m)) (λx _=>s.keys.length-(intOf x).toNat);exact⟨0,rfl,oa,HO,λj hj=>absurd hj (zgV _)⟩;clear HO;obtain⟨i,rfl,hi,a,X⟩:=hrel;obtain⟨n,o⟩:=zb r wr a;by_cases ac:i<s.keys.length
      .obtain⟨gk,ok,rfl,_,ao⟩:=(S.k).get ac;obtain⟨gs,os,rfl,ap⟩:=(S.s).get (show i<s.subs.length by omega);have ek:=zg (h.trans a) _ _ ao id;have es:=zg (h.trans a) _ _ ap id;have d1:s.keys.getD i ⟨#[]⟩=s.keys[i]:=(by rw[zg3,zgE ac];rfl);have d2:s.subs.getD i 0=s.subs[i]' oa:=(by rw[zg3,zgE (show i<s.subs.length by omega)];rfl);have HN:H (s.OK k m->(jb s.keys[i]).isSome=G/\(k:Int)<s.subs[i]' oa/\s.subs[i]' oa<m):=λq=>(by have:=q.2.2.2 i ac;rw[d1,d2] at this;exact this);have HM:H ((jb s.keys[i]).isSome=G->(k:Int)<s.subs[i]' oa->s.subs[i]' oa<m->∀j,j<i+1->(jb (s.keys.getD j ⟨#[]⟩)).isSome=G/\(k:Int)<s.subs.getD j 0/\s.subs.getD j 0<m):=λa1 a2 a3 j hj=>by
        by_cases c:j<i;exact zb X j c
        grind
       have ab:=ze (zb HT s.keys[i]);generalize (jb s.keys[i]).isSome=b at *;generalize s.keys[i]=kk at *;generalize s.subs[i]=ss at *;clear ao ap d1 d2 X;cases b
       .have g:H (¬s.OK k m):=λq=>Bool.noConfusion (zb HN q).1;go_wp2_with(go_at_call 151;refine(zb ab _).mono ?_;rintro e t ⟨rfl,d⟩;clear n o;obtain⟨n,o⟩:=zb r t (a.trans d));go_ret;exact⟨_,rfl,Iff.intro (λq=>Bool.noConfusion q) (λq=>absurd q g),(h.trans a).trans d⟩
       by_cases L:(k:Int)<ss/\ss<m
       .have au:=ze (zb HM rfl L.1 L.2);obtain⟨T,h2⟩:=L;go_wp2_with(go_at_call 151;refine(zb ab _).mono ?_;rintro e t ⟨rfl,d⟩;clear n o;obtain⟨n,o⟩:=zb r t (a.trans d);have aw:=zg d _ _ es id);exact⟨⟨i+1,by go_num,oa,a.trans d,au⟩,by simp[intOf];omega⟩
       have g:H (¬s.OK k m):=λq=>L (zb HN q).2;have T:ss<=(k:Int)\/((k:Int)<ss/\(m:Int)<=ss):=oa;clear L;rcases T with T|⟨T,h2⟩
       all_goals
        go_wp2_with(go_at_call 151;refine(zb ab _).mono ?_;rintro e t ⟨rfl,d⟩;clear n o;obtain⟨n,o⟩:=zb r t (a.trans d);have aw:=zg d _ _ es id);go_ret;exact⟨_,rfl,Iff.intro (λq=>Bool.noConfusion q) (λq=>absurd q g),(h.trans a).trans d⟩
      obtain rfl:i=s.keys.length:=oa;have g:=ze (HQ.1 ⟨z,X⟩);go_wp2_with fail;go_ret;exact⟨_,rfl,Iff.intro (λ_=>zb g) (λ_=>rfl),h.trans a⟩
    have g:H (¬s.OK k m):=λq=>(p.1 rfl) q.2.1;clear p B;go_wp2_with fail;go_ret;exact⟨_,rfl,Iff.intro (λq=>Bool.noConfusion q) (λq=>absurd q g),h⟩
  have g:H (¬s.OK k m):=λq=>(p.1 rfl) q.1;clear p;go_wp2_with fail;go_ret;exact⟨_,rfl,Iff.intro (λq=>Bool.noConfusion q) (λq=>absurd q g),h⟩
def BF (w:E)(g N:Nat)(K:Nat->Prop):Prop:=∀i,i<N->(∃b:Bool,w.cell? ⟨g,i,U⟩=I (C b)/\(b=G↔K i))/\w.frozen? ⟨g,i,U⟩=Z
def BT (w:E)(g n m:Nat)(K:Nat->Nat->Prop):Prop:=BF w g (n*m) (λx=>K (x / m) (x % m))
section
variable {w l:World} {g N n m i j:Nat} {K a:Nat->Prop} {T T':Nat->Nat->Prop} {P:Nat->Prop}
theorem BF.keep (h:BF w g N K)(k:zf P w l)(a:¬P g):BF l g N K:=λi d=>by obtain⟨⟨b,c,e⟩,f⟩:=h i d;exact⟨⟨b,zg k _ _ c a,e⟩,zo k _ (zgF w _ c) f a⟩
theorem BF.to (h:BF w g N K)(e:∀i,i<N->(K i↔a i)):BF w g N a:=λi j=>by obtain⟨⟨b,c,d⟩,f⟩:=h i j;exact⟨⟨b,c,d.trans (e i j)⟩,f⟩
theorem BF.set (h:BF w g N K)(n:i<N)(b:Bool)(e:∀x,x<N->x≠i->(K x↔a x))(l:b=G↔a i):BF (w.setCell ⟨g,i,U⟩ (C b)) g N a:=λx j=>by rw[zk];obtain⟨⟨k,c,d⟩,f⟩:=h x j;by_cases q:x=i;subst q;exact⟨⟨b,zgL _ _ _ c,l⟩,f⟩;exact⟨⟨k,(zgI _ _ _ _ (by intro m;exact q (by have:=congrArg Addr.off m;simpa using this.symm))).trans c,d.trans (e x j q)⟩,f⟩
theorem WH (a:j<n)(b:i<m):j*m+i<n*m:=by have:=Nat.mul_le_mul_right m a;rw[Nat.succ_mul] at this;omega
theorem zdX (a:i<m):(j*m+i) / m=j/\(j*m+i) % m=i:=by rw[zix,Nat.mul_add_div oa,Nat.mul_add_mod,Nat.div_eq_of_lt a,Nat.mod_eq_of_lt a];exact⟨rfl,rfl⟩
theorem BT.get (h:BT w g n m T)(c:j<n)(a:i<m):(∃b:Bool,w.cell? ⟨g,j*m+i,U⟩=I (C b)/\(b=G↔T j i))/\w.frozen? ⟨g,j*m+i,U⟩=Z:=by have:=h _ (WH c a);simp only[zdX a] at this;exact this
theorem BT.to (h:BT w g n m T)(e:∀j i,j<n->i<m->(T j i↔T' j i)):BT w g n m T':=
 BF.to h (λx a=>e _ _ (zif (by rw[zix];exact a)) (Nat.mod_lt _ (by rcases zio m with rfl|q;simp at a;exact q)))
theorem BT.set (h:BT w g n m T)(o:j<n)(k:i<m)(b:Bool)(e:∀f d,f<n->d<m->¬(f=j/\d=i)->(T f d↔T' f d))(l:b=G↔T' j i):BT (w.setCell ⟨g,j*m+i,U⟩ (C b)) g n m T':=by have p:0<m:=oa;refine BF.set h (WH o k) b (λx r q=>e _ _ (zif (by rw[zix];exact r)) (Nat.mod_lt _ p) (λ⟨a,c⟩=>q ?_)) (by simp only[zdX k];exact l);rw[<-Nat.div_add_mod x m,a,c,zix]
theorem BF.made (w:E)(n:Nat):BF (w.alloc (Ub (madeCells #[C Z] n) 4)) w.heap.size n (λ_=>False):=λi a=>⟨⟨Z,zm w _ rfl _ _ i _ (zbl n i a),⟨λh=>Bool.noConfusion h,False.elim⟩⟩,zu w _ rfl _ _ i⟩
end
def qu (ns:List Nd)(ss:List Sc)(k s:Nat):Prop:=∀P:Nat->Nat->Prop,P 0 0->(∀{k p s a:Nat} {n q:Nd} {c:Sc},1<=k->ns[k]?=I n->n.parent=(p:Int)->ns[p]?=I q->q.kind=5->P p s->ss[s]?=I c->((a:Nat):Int)∈(c.agn n.key).1->P k a)->P k s
theorem qu.root {ns:List Nd}{ss:List Sc}:qu ns ss 0 0:=λ_ h _=>h
theorem qu.kid {ns:List Nd}{ss:List Sc}{k p s d:Nat}{n q:Nd}{c:Sc}(e:1<=k)(f:ns[k]?=I n)(g:n.parent=(p:Int))(h:ns[p]?=I q)(i:q.kind=5)(j:qu ns ss p s)(l:ss[s]?=I c)(m:((d:Nat):Int)∈(c.agn n.key).1):qu ns ss k d:=λP a b=>b e f g h i (j P a b) l m
theorem qu.inv {ns:List Nd}{ss:List Sc}{k a:Nat}(h:qu ns ss k a):(k=0/\a=0)\/∃(p s:Nat) (n q:Nd) (c:Sc),1<=k/\ns[k]?=I n/\n.parent=(p:Int)/\ns[p]?=I q/\q.kind=5/\qu ns ss p s/\ss[s]?=I c/\((a:Nat):Int)∈(c.agn n.key).1:=
 (h (λk a=>qu ns ss k a/\((k=0/\a=0)\/∃(p s:Nat) (n q:Nd) (c:Sc),1<=k/\ns[k]?=I n/\n.parent=(p:Int)/\ns[p]?=I q/\q.kind=5/\qu ns ss p s/\ss[s]?=I c/\((a:Nat):Int)∈(c.agn n.key).1)) ⟨.root,Q ⟨rfl,rfl⟩⟩ (λb d e f g i j l=>⟨.kid b d e f g i.1 j l,O ⟨_,_,_,_,_,b,d,e,f,g,i.1,j,l⟩⟩)).2
def Jq (ns:List Nd)(ss:List Sc)(k:Nat):Prop:=∃(p s:Nat) (n q:Nd) (c:Sc),1<=k/\ns[k]?=I n/\n.parent=(p:Int)/\ns[p]?=I q/\q.kind=5/\qu ns ss p s/\ss[s]?=I c/\(c.agn n.key).2=G
def FP (ns:List Nd)(ss:List Sc)(k s:Nat):Prop:=∃(n:Nd) (c:Sc),qu ns ss k s/\ns[k]?=I n/\n.kind=3/\ss[s]?=I c/\c.hp=G/\vU c.pat n.text=Z
def FF (ns:List Nd)(ss:List Sc)(k s:Nat):Prop:=∃(n:Nd) (c:Sc),qu ns ss k s/\ns[k]?=I n/\n.kind=3/\ss[s]?=I c/\c.fmt≠0/\vU (Zq c.fmt) n.text=Z
def FailP (ns:List Nd)(ss:List Sc)(k:Nat):Prop:=∃s,FP ns ss k s
def FailF (ns:List Nd)(ss:List Sc)(k:Nat):Prop:=∃s,FF ns ss k s
open Classical in
noncomputable def yP (ns:List Nd)(ss:List Sc):Nat->List (Int×Int)
 |0=>[]
 |k+1=>yP ns ss k++((if FailP ns ss k then [((k:Int),1)] else [])++((if FailF ns ss k then [((k:Int),2)] else [])++(if Jq ns ss k then [((k:Int),3)] else [])))
def yC:List (Int×Int)->List Y
 | []=>[]
 |f :: r=>M J f.1 :: M J f.2 :: yC r
def VErr (ns:List Nd)(ss:List Sc)(e a:Int):Prop:=
 (ns.length=0/\e=10/\a=0)\/(40<ns.length/\e=10/\a=40)\/(0<ns.length/\ns.length<=40/\∃k:Nat,k<ns.length/\(∀j,j<k->xI ns j)/\¬xI ns k/\e=10/\a=k)\/
 ((0<ns.length/\ns.length<=40/\∀j,j<ns.length->xI ns j)/\((ss.length=0/\e=11/\a=0)\/(8<ss.length/\e=11/\a=8)\/(0<ss.length/\ss.length<=8/\∃(k:Nat) (c:Sc),ss[k]?=I c/\(∀(j:Nat) d,j<k->ss[j]?=I d->d.OK j ss.length)/\¬c.OK k ss.length/\e=11/\a=k)))
structure VFine (ns:List Nd)(ss:List Sc):Prop where
 n0:0<ns.length
 n1:ns.length<=40
 nodes:∀j,j<ns.length->xI ns j
 m0:0<ss.length
 m1:ss.length<=8
 schemas:∀(j:Nat) d,ss[j]?=I d->d.OK j ss.length
def VAns (ns:List Nd)(ss:List Sc)(w:E)(x:Ending)(l:E):Prop:=
 ziE w l/\((∃e a,VErr ns ss e a/\x=R (Ue #[.slice U 0 0,M J e,M J a]))\/
  (VFine ns ss/\∃v,x=R (Ue #[v,M J 0,M J 0])/\l.ownsRow w.heap.size 49 2 v (yP ns ss ns.length).length (yC (yP ns ss ns.length))))
def Sc.cells (s:Sc)(a:Option Addr)(kc:Nat)(b:Option Addr)(c:Nat):List Y:=[C s.hp,Uc s.pat,M J s.fmt,.slice a s.keys.length kc,.slice b s.subs.length c,M J s.more]
def vB (w:E)(v:Y)(ss:List Sc):Prop:=∃a h,v=.slice a ss.length h/\∀(i:Nat) s,ss[i]?=I s->∃b e c d f g,a=I ⟨b,e,U⟩/\ScL w s c d f g/\∀(j:Nat) u,(s.cells c d f g)[j]?=I u->w.cell? ⟨b,e+i*6+j,U⟩=I u
theorem vB.keep {w l:E}{v:Y}{ss:List Sc}(h:vB w v ss)(k:ziE w l):vB l v ss:=by obtain⟨a,c,d,g⟩:=h;refine⟨a,c,d,λi n p=>?_⟩;obtain⟨b,t,r,s,x,y,e,o,m⟩:=g i n p;exact⟨b,t,r,s,x,y,e,o.keep k,λj u q=>zg k _ _ (m j u q) id⟩
section
variable {ns:List Nd} {ss:List Sc}
def TP (ns:List Nd)(ss:List Sc)(k s a:Nat):Prop:=∃(p:Nat) (n q:Nd) (c:Sc),ns[k]?=I n/\n.parent=(p:Int)/\ns[p]?=I q/\q.kind=5/\qu ns ss p s/\ss[s]?=I c/\((a:Nat):Int)∈(c.agn n.key).1
def XP (ns:List Nd)(ss:List Sc)(k s:Nat):Prop:=∃(p:Nat) (n q:Nd) (c:Sc),ns[k]?=I n/\n.parent=(p:Int)/\ns[p]?=I q/\q.kind=5/\qu ns ss p s/\ss[s]?=I c/\(c.agn n.key).2=G
theorem TP.lt {k s a:Nat}:TP ns ss k s a->s<ss.length:=λ⟨_,_,_,_,_,_,_,_,_,e,_⟩=>(zgG.1 e).1
theorem XP.lt {k s:Nat}:XP ns ss k s->s<ss.length:=λ⟨_,_,_,_,_,_,_,_,_,e,_⟩=>(zgG.1 e).1
theorem held_pos {k j:Nat}(l:1<=k):qu ns ss k j↔∃s,s<ss.length/\TP ns ss k s j:=by constructor;intro h;rcases h.inv with h|⟨_,_,_,_,_,_,b,d,e,f,g,a,i⟩;omega;exact⟨_,(zgG.1 a).1,_,_,_,_,b,d,e,f,g,a,i⟩;rintro⟨s,_,p,n,q,c,b,d,e,f,g,a,i⟩;exact .kid l b d e f g a i
theorem zgo {k:Nat}(i:1<=k):Jq ns ss k↔∃s,s<ss.length/\XP ns ss k s:=by constructor;rintro⟨p,s,n,q,c,_,b,d,e,f,g,a,h⟩;exact⟨s,(zgG.1 a).1,p,n,q,c,b,d,e,f,g,a,h⟩;rintro⟨s,_,p,n,q,c,b,d,e,f,g,a,h⟩;exact⟨p,s,n,q,c,i,b,d,e,f,g,a,h⟩
theorem zgp {s:Nat}:qu ns ss 0 s↔s=0:=by constructor;intro h;rcases h.inv with h|⟨_,_,_,_,_,h,_⟩;exact h.2;omega;rintro rfl;exact .root
def KA (ns:List Nd)(ss:List Sc)(D:Nat->Nat->Prop)(j a:Nat):Prop:=(j=0/\a=0)\/(1<=j/\∃s,D j s/\TP ns ss j s a)
def KX (ns:List Nd)(ss:List Sc)(D:Nat->Nat->Prop)(j:Nat):Prop:=1<=j/\∃s,D j s/\XP ns ss j s
theorem KA.all {D:Nat->Nat->Prop}{j b:Nat}(h:∀s,1<=j->s<ss.length->D j s):KA ns ss D j b↔qu ns ss j b:=by rcases zio j with rfl|a;rw[zgp];exact⟨λq=>q.elim And.right (λq=>absurd q.1 od),λq=>Q ⟨rfl,q⟩⟩;rw[held_pos a];exact⟨λq=>q.elim (λq=>oa) (λ⟨_,s,_,q⟩=>⟨s,q.lt,q⟩),λ⟨s,q,r⟩=>O ⟨a,s,h s a q,r⟩⟩
theorem KX.all {D:Nat->Nat->Prop}{j:Nat}(h:∀s,1<=j->s<ss.length->D j s):KX ns ss D j↔Jq ns ss j:=by rcases zio j with rfl|a;exact⟨λq=>absurd q.1 od,λ⟨_,_,_,_,_,q,_⟩=>absurd q od⟩;rw[zgo a];exact⟨λ⟨_,s,_,q⟩=>⟨s,q.lt,q⟩,λ⟨s,q,r⟩=>⟨a,s,h s a q,r⟩⟩
def Dn (D:Nat->Nat->Prop)(k s j a:Nat):Prop:=D j a\/(j=k/\a=s)
theorem KA.more {D:Nat->Nat->Prop}{k s j a:Nat}(c:1<=k):KA ns ss (Dn D k s) j a↔KA ns ss D j a\/(j=k/\TP ns ss k s a):=by constructor;rintro(h|⟨h,b,e|⟨rfl,rfl⟩,t⟩);exact Q (Q h);exact Q (O ⟨h,b,e,t⟩);exact O ⟨rfl,t⟩;rintro((h|⟨h,b,e,t⟩)|⟨rfl,t⟩);exact Q h;exact O ⟨h,b,Q e,t⟩;exact O ⟨c,s,O ⟨rfl,rfl⟩,t⟩
theorem KX.more {D:Nat->Nat->Prop}{k s j:Nat}(b:1<=k):KX ns ss (Dn D k s) j↔KX ns ss D j\/(j=k/\XP ns ss k s):=by constructor;rintro⟨h,a,e|⟨rfl,rfl⟩,t⟩;exact Q ⟨h,a,e,t⟩;exact O ⟨rfl,t⟩;rintro(⟨h,a,e,t⟩|⟨rfl,t⟩);exact⟨h,a,Q e,t⟩;exact⟨b,s,O ⟨rfl,rfl⟩,t⟩
theorem KA.same {D c:Nat->Nat->Prop}{j d:Nat}(h:∀s,s<ss.length->(D j s↔c j s)):KA ns ss D j d↔KA ns ss c j d:=
 or_congr Iff.rfl (and_congr Iff.rfl ⟨λ⟨s,a,b⟩=>⟨s,(h s b.lt).1 a,b⟩,λ⟨s,a,b⟩=>⟨s,(h s b.lt).2 a,b⟩⟩)
theorem KX.same {D c:Nat->Nat->Prop}{j:Nat}(h:∀s,s<ss.length->(D j s↔c j s)):KX ns ss D j↔KX ns ss c j:=
 and_congr Iff.rfl ⟨λ⟨s,a,b⟩=>⟨s,(h s b.lt).1 a,b⟩,λ⟨s,a,b⟩=>⟨s,(h s b.lt).2 a,b⟩⟩
def Dk (k s j a:Nat):Prop:=j<k\/(j=k/\a<s)
theorem KX.start {j:Nat}:False↔KX ns ss (Dk 1 0) j:=⟨False.elim,λ⟨h,s,d,_⟩=>by unfold Dk at d;omega⟩
theorem KA.start {w:E}{g n m:Nat}(a:0<n*m)(h:BT w g n m (λ_ _=>False)):BT (w.setCell ⟨g,0,U⟩ (C G)) g n m (KA ns ss (Dk 1 0)):=by have b:0<m:=Nat.pos_of_mul_pos_left a;have c:0<n:=Nat.pos_of_mul_pos_right a;have:=BT.set (T':=KA ns ss (Dk 1 0)) h c b G (λj s _ _ q=>⟨False.elim,?_⟩) ⟨λ_=>Q ⟨rfl,rfl⟩,λ_=>rfl⟩;simpa using this;rintro(e|⟨e,f,d,_⟩);exact q e;unfold Dk at d;omega
theorem Dk.next {k s j a:Nat}:Dk k (s+1) j a↔Dn (Dk k s) k s j a:=by unfold Dk Dn;omega
theorem KA.skip {w:E}{g n m k s:Nat}(h:BT w g n m (KA ns ss (Dk k s)))(b:1<=k)(no:∀a,¬TP ns ss k s a):BT w g n m (KA ns ss (Dk k (s+1))):=
 BT.to h (λj a _ _=>by rw[KA.same (λ_ _=>Dk.next),KA.more b];exact⟨Q,λq=>q.elim id (λq=>absurd q.2 (no a))⟩)
theorem KX.skip {w:E}{g n k s:Nat}(h:BF w g n (KX ns ss (Dk k s)))(a:1<=k)(no:¬XP ns ss k s):BF w g n (KX ns ss (Dk k (s+1))):=
 BF.to h (λj _=>by rw[KX.same (λ_ _=>Dk.next),KX.more a];exact⟨Q,λq=>q.elim id (λq=>absurd q.2 no)⟩)
theorem Dk.row {k j s m:Nat}(h:s<m):Dk k m j s↔Dk (k+1) 0 j s:=by unfold Dk;omega
def KI (K:Nat->Nat->Prop)(k:Nat)(l:List Int)(i j b:Nat):Prop:=K j b\/(j=k/\∃a,a<i/\l[a]?=I ((b:Nat):Int))
theorem KI.zero {K:Nat->Nat->Prop}{k j a:Nat}{l:List Int}:K j a↔KI K k l 0 j a:=⟨Q,λh=>h.elim id (λ⟨_,_i,h,_⟩=>absurd h (zgV _))⟩
theorem KI.set {w:E}{g n m k i y:Nat}{K:Nat->Nat->Prop}{l:List Int}(h:BT w g n m (KI K k l i))(d:l[i]?=I ((y:Nat):Int))(p:y<m)(o:k<n):BT (w.setCell ⟨g,k*m+y,U⟩ (C G)) g n m (KI K k l (i+1)):=by refine BT.set h o p G (λj r _ _ q=>or_congr Iff.rfl (and_congr_right λe=>⟨λ⟨c,a,b⟩=>⟨c,oa,b⟩,λ⟨c,a,b⟩=>⟨c,?_,b⟩⟩)) ⟨λ_=>O ⟨rfl,i,oa,d⟩,λ_=>rfl⟩;by_cases f:c=i;subst f;have:=zg0 (d.symm.trans b);exact absurd ⟨e,oa⟩ q;omega
theorem KI.all {K:Nat->Nat->Prop}{k j a:Nat}{l:List Int}:KI K k l l.length j a↔K j a\/(j=k/\((a:Nat):Int)∈l):=
 or_congr Iff.rfl (and_congr_right λ_=>⟨λ⟨i,_,h⟩=>zgS h,λh=>by obtain⟨i,h⟩:=zhN.1 h;exact⟨i,(zgG.1 h).1,h⟩⟩)
theorem KA.step {w:E}{g n m k s:Nat}{l:List Int}(h:BT w g n m (KI (KA ns ss (Dk k s)) k l l.length))(b:1<=k)(e:∀a:Nat,TP ns ss k s a↔((a:Nat):Int)∈l):BT w g n m (KA ns ss (Dk k (s+1))):=
 BT.to h (λj a _ _=>by rw[KI.all,KA.same (λ_ _=>Dk.next),KA.more b,e])
theorem KX.step {w:E}{g n k s:Nat}{b x:Bool}(h:BF w g n (KX ns ss (Dk k s)))(a:1<=k)(d:k<n)(e:XP ns ss k s↔x=G)(c:b=G↔KX ns ss (Dk k s) k):BF (w.setCell ⟨g,k,U⟩ (C (b ||x))) g n (KX ns ss (Dk k (s+1))):=
 BF.set h d _ (λj _ q=>by rw[KX.same (λ_ _=>Dk.next),KX.more a];exact⟨Q,λr=>r.elim id (λr=>absurd r.1 q)⟩) (by rw[KX.same (λ_ _=>Dk.next),KX.more a,zhD,c,e];exact or_congr Iff.rfl ⟨λq=>⟨rfl,q⟩,And.right⟩)
theorem vA.adr {w:E}{a:Option Addr}{n c:Nat}(h:vA w (.slice a n c) ns)(d:0<ns.length):∃f no,a=I ⟨f,no,U⟩:=by obtain⟨a,i,e,h⟩:=h;cases e;obtain⟨b,g,e,_⟩:=h 0 _ (zgE d);exact⟨b,g,e⟩
theorem vB.adr {w:E}{a:Option Addr}{n c:Nat}(h:vB w (.slice a n c) ss)(d:0<ss.length):∃f no,a=I ⟨f,no,U⟩:=by obtain⟨a,i,e,h⟩:=h;cases e;obtain⟨b,g,_,_,_,_,e,_⟩:=h 0 _ (zgE d);exact⟨b,g,e⟩
theorem vA.all {w:E}{b no c n:Nat}(h:vA w (.slice (I ⟨b,no,U⟩) n c) ns):n=ns.length/\∀(i:Nat) x,ns[i]?=I x->∀(j:Nat) u,x.cells[j]?=I u->w.cell? ⟨b,no+i*4+j,U⟩=I u:=by obtain⟨a,k,e,h⟩:=h;cases e;refine⟨rfl,λi x f=>?_⟩;obtain⟨g,l,e,d⟩:=h i x f;cases e;exact d
theorem vB.all {w:E}{g no c n:Nat}(h:vB w (.slice (I ⟨g,no,U⟩) n c) ss):n=ss.length/\∀(i:Nat) x,ss[i]?=I x->∃b kc d f,ScL w x b kc d f/\∀(j:Nat) u,(x.cells b kc d f)[j]?=I u->w.cell? ⟨g,no+i*6+j,U⟩=I u:=by obtain⟨a,p,e,h⟩:=h;cases e;refine⟨rfl,λi x m=>?_⟩;obtain⟨o,q,b,kc,d,f,e,l,k⟩:=h i x m;cases e;exact⟨b,kc,d,f,l,k⟩
theorem tp_iff {k s p:Nat}{n q:Nd}{c:Sc}(j:ns[k]?=I n)(t:n.parent=(p:Int))(l:ns[p]?=I q)(m:ss[s]?=I c):(∀o:Nat,TP ns ss k s o↔(qu ns ss p s/\q.kind=5)/\((o:Nat):Int)∈(c.agn n.key).1)/\(XP ns ss k s↔(qu ns ss p s/\q.kind=5)/\(c.agn n.key).2=G):=by
 have key:∀(a:Nat) (b e:Nd) (d:Sc),ns[k]?=I b->b.parent=(a:Int)->ns[a]?=I e->ss[s]?=I d->a=p/\b=n/\e=q/\d=c:=by intro a b e d f r g i;cases j.symm.trans f;obtain rfl:a=p:=oa;cases l.symm.trans g;cases m.symm.trans i;exact⟨rfl,rfl,rfl,rfl⟩
 refine⟨λo=>⟨?_,λh=>⟨p,n,q,c,j,t,l,h.1.2,h.1.1,m,h.2⟩⟩,⟨?_,λh=>⟨p,n,q,c,j,t,l,h.1.2,h.1.1,m,h.2⟩⟩⟩
 all_goals
  rintro⟨a,b,e,d,f,r,g,i,u,v,w⟩;obtain⟨rfl,rfl,rfl,rfl⟩:=key a b e d f r g v;exact⟨⟨u,i⟩,w⟩
theorem Sc.hits_in {s:Sc}{k m:Nat}(h:s.OK k m)(key:ByteArray):∀i,i<=s.keys.length->∀x∈s.hits key i,0<=x/\x<(m:Int)
 |0,_,x,a=>by simp[Sc.hits] at a
 |i+1,b,x,a=>by
  rcases zgU.1 a with e|e;exact s.hits_in h key i oa x e;have:=(h.2.2.2 i oa).2;split at e;rw[zgT.1 e];omega;simp at e
theorem Sc.agn_in {s:Sc}{k m:Nat}(h:s.OK k m)(key:ByteArray):∀x∈(s.agn key).1,0<=x/\x<(m:Int):=by intro x a;unfold Sc.agn at a;split at a;exact Sc.hits_in h key _ (zgH _) x a;split at a;simp at a;obtain rfl:x=_:=(by simpa using a);have:=h.2.1;simp at *;omega
theorem Sc.agn_len {s:Sc}(h:s.keys.length<=6)(key:ByteArray):(s.agn key).1.length<=6:=by have:=s.hits_len key s.keys.length;unfold Sc.agn;split;simp only;omega;split<;>simp
def Fs (Q:Nat->Prop)(s:Nat):Prop:=∃i,i<s/\Q i
theorem Fs.zero {Q:Nat->Prop}:Z=G↔Fs Q 0:=⟨λh=>Bool.noConfusion h,λ⟨_,h,_⟩=>absurd h (zgV _)⟩
theorem Fs.step {Q:Nat->Prop}{s:Nat}{a b:Bool}(h:a=G↔Fs Q s)(k:b=G↔Q s):(a ||b)=G↔Fs Q (s+1):=by rw[zhD,h,k];constructor;rintro(⟨i,d,c⟩|h);exact⟨i,oa,c⟩;exact⟨s,oa,h⟩;rintro⟨i,d,c⟩;by_cases e:i=s;subst e;exact O c;exact .inl ⟨i,oa,c⟩
theorem Fs.skip {Q:Nat->Prop}{s:Nat}{a:Bool}(h:a=G↔Fs Q s)(k:¬Q s):a=G↔Fs Q (s+1):=by have:=Fs.step (b:=Z) h ⟨λe=>Bool.noConfusion e,λe=>absurd e k⟩;rwa [ziu] at this
theorem Vr {k s:Nat}{n:Nd}{c:Sc}(d:ns[k]?=I n)(f:ss[s]?=I c):(FP ns ss k s↔(qu ns ss k s/\n.kind=3)/\(c.hp && !vU c.pat n.text)=G)/\(FF ns ss k s↔(qu ns ss k s/\n.kind=3)/\((c.fmt != 0) && !vU (Zq c.fmt) n.text)=G):=by constructor<;>constructor;rintro⟨m,l,a,g,b,h,i,j⟩;cases d.symm.trans g;cases f.symm.trans h;exact⟨⟨a,b⟩,by rw[i,j];rfl⟩;rintro⟨⟨a,b⟩,e⟩;rw[zhb,zh9] at e;exact⟨n,c,a,d,b,f,e.1,e.2⟩;rintro⟨m,l,a,g,b,h,i,j⟩;cases d.symm.trans g;cases f.symm.trans h;exact⟨⟨a,b⟩,by rw[j];simp[i]⟩;rintro⟨⟨a,b⟩,e⟩;rw[zhb,zh9] at e;exact⟨n,c,a,d,b,f,by simpa using e.1,e.2⟩
theorem zcF {k:Nat}:(Fs (FP ns ss k) ss.length↔FailP ns ss k)/\(Fs (FF ns ss k) ss.length↔FailF ns ss k):=
 ⟨⟨λ⟨i,_,h⟩=>⟨i,h⟩,λ⟨i,h⟩=>⟨i,by obtain⟨n,c,_,_,_,h,_⟩:=h;exact(zgG.1 h).1,h⟩⟩,⟨λ⟨i,_,h⟩=>⟨i,h⟩,λ⟨i,h⟩=>⟨i,by obtain⟨n,c,_,_,_,h,_⟩:=h;exact(zgG.1 h).1,h⟩⟩⟩
def fail1 (k:Nat)(a b c:Bool):List (Int×Int):=(if a then [((k:Int),1)] else [])++((if b then [((k:Int),2)] else [])++(if c then [((k:Int),3)] else []))
theorem ite_b {P:Prop}{_d:Decidable P}{a:Bool}(h:a=G↔P){α:Type}(x y:α):(if P then x else y)=if a then x else y:=by cases a<;>simp at h<;>simp[h]
theorem QW {k:Nat}{a b c:Bool}(d:a=G↔FailP ns ss k)(e:b=G↔FailF ns ss k)(f:c=G↔Jq ns ss k):yP ns ss (k+1)=yP ns ss k++fail1 k a b c:=by rw[yP,fail1,ite_b d,ite_b e,ite_b f]
theorem Zg:∀k,(yP ns ss k).length<=3*k
 |0=>zgH _
 |k+1=>by
  have:=Zg k;simp only[yP,zgK];split<;>split<;>split<;>simp<;>omega
theorem Zr:∀a b:List (Int×Int),yC (a++b)=yC a++yC b
 | [],_=>rfl
 |x :: a,b=>by simp[yC,Zr a b]
end
end
