/- Nodes and schemas that are handed in: what their reading gives the walks. Validated at whatever nodes and schemas, and its row's form. For all nodes and schemas the statement 'lineallaw.Validated' answers true: Validate tells what the document's answer tells, its failures are the caller's, and what was handed in is as it was. Its conditions: those of the given card alone (the listed package-level variables are as the program's text lays them; nothing handed in is longer than can be laid). -/
import Derived.Test.YtcgleficedipkaaGreatDoorYLwCLwM
import Derived.Deep.Slices
import Derived.ChangeArms
import Derived.Test.YtcgleficedipkaaGreatDoorYVdJVdK
namespace Go.Proofs.YtcgleficedipkaaGreatDoor
open Option renaming none->U,some->I
open Value renaming slice->K
open Bool renaming false->Z,true->G
open _root_.Go.Proofs.Tryz renaming prog->V
open Go renaming World->E,Value->Y
open Or renaming inr->O,inl->Q
open _root_.Go.Proofs.Tryz
section
open Go.RowKit Go.Deep
theorem zcK {α:Type}{Q:Nat->α->Prop}:∀n:Nat,(∀i,i<n->∃o,Q i o)->∃os:List α,os.length=n/\∀(i:Nat) o,os[i]?=I o->Q i o
 |0,_=>⟨[],rfl,ov⟩
 |n+1,h=>by
  obtain⟨os,b,c⟩:=zcK n (λi d=>h i oa);obtain⟨o,e⟩:=h n oa;refine⟨os++[o],by simp[b],λi x a=>?_⟩;by_cases d:i<n;rw[zgW oa] at a;exact c i x a;obtain rfl:i=n:=(by have:=(zgG.1 a).1;simp at this;omega);rw[zg2 oa,b] at a;simp at a;subst a;exact e
theorem XM {a:List Y}{o:Nat}{v:Y}(h:(a.drop o).take 1=[v]):a[o]?=I v:=by
 have b:((a.drop o).take 1)[0]?=I v:=by rw[h];rfl
 rw[zir,IN od,zhI] at b;exact b
theorem Tryz.cellsBV:prog.cellsOf 4=1:=om
theorem Tryz.cellsLV:prog.cellsOf 27=1:=om
theorem Tryz.cellsSV:prog.cellsOf 37=1:=om
theorem Tryz.cellsNdV:prog.cellsOf 41=4:=om
theorem Tryz.cellsScV:prog.cellsOf 39=6:=om
theorem Tryz.bytesNdV:prog.bytesOf 41=48:=om
theorem Tryz.bytesScV:prog.bytesOf 39=88:=om
section
variable {H:Type} {enc:TypeId×Value->H}
theorem JP {P:Program}{e:TypeId}{r:Nat}{d:DataW H}:∀{l:List (DataW H)},d∈l->(DataW.weightsAll P e l).all (·<=r)=G->(d.weights P e).all (·<=r)=G
 | [],h,_=>by cases h
 |x :: l,h,k=>by
  simp only[DataW.weightsAll,List.all_append,zhb] at k;rcases zhh.1 h with rfl|h;exact k.1;exact JP h k.2
theorem zcL {α:Type}(C:α->List Y)(P:α->Prop){t e:TypeId}{k b:Nat}(hk:0<k)(L:prog.underlying t=I (.slice e))(ae:prog.cellsOf e=k)(ad:prog.bytesOf e=b)(z:∀o,(C o).length=k){W:E}(one:∀(n:Nat) f (y:DataW H×List MemPlace),DataW.trod enc V W 0 (λ_=>G) G n e f=I y->(y.1.weights V e).all (·<=reachBytes)=G->∃o,P o/\∀(j:Nat) u,(C o)[j]?=I u->f[j]?=I u){a0:Option Addr} {d l:Nat} {d0:DataW H} {p:List MemPlace} (h0:DataW.Trod enc V W 0 (λ_=>G) G t (K a0 d l) d0 p) (w:(d0.weights V t).all (·<=reachBytes)=G):∃os:List α,d=os.length/\os.length*b<=reachBytes/\∀(i:Nat) o,os[i]?=I o->P o/\∃c off,a0=I ⟨c,off,U⟩/\∀(j:Nat) u,(C o)[j]?=I u->W.cell? ⟨c,off+i*k+j,U⟩=I u:=by
 obtain⟨ap,h⟩:=h0;rcases open_slice L h with⟨q,h2⟩|⟨a,T,X,m,n,x,Pl,q,hb,au,_,F,hx,B⟩
 .have e:K a0 d l=K U 0 0:=by simpa [Value.cells] using q
  cases e;exact⟨[],rfl,ov,ov⟩
 have e1:K a0 d l=K (I a) T X:=by simpa [Value.cells] using q
 rw[IN rfl] at F;subst F;have hd:d0=.slice ((List.range T).map x) ((List.range (m-T)).map λj=>x (T+j)):=congrArg Prod.fst hx;rw[hd] at w;simp only[DataW.weights,L,List.all_cons,List.all_append,zhb,decide_eq_true_eq,zil,List.length_range,ad] at w;obtain⟨ak,al,_⟩:=w;rw[ae] at B;cases e1;have key:∀i,i<d->∃o:α,P o/\∀(j:Nat) (u:Y),(C o)[j]?=I u->W.cell? ((a.add (i*k)).add j)=I u:=λi s=>by obtain⟨f,c1,S⟩:=B i oa;obtain⟨o,v,r⟩:=one _ f _ S (JP (zhF.2 ⟨i,zib.2 s,rfl⟩) al);exact⟨o,v,λj u g=>((World.cells?_some c1).2.2 j (by have:=(zgG.1 g).1;rw[z] at this;exact this)).trans (r j u g)⟩
 have ah:∀i,i<d->∃o:α,P o/\∃c off,I a=I ⟨c,off,U⟩/\∀(j:Nat) u,(C o)[j]?=I u->W.cell? ⟨c,off+i*k+j,U⟩=I u:=λi s=>by obtain⟨o',_,h'⟩:=key 0 oa;have hs:=zdj (h' 0 _ (zgE (by rw[z];exact hk)));obtain⟨o,v,r⟩:=key i s;obtain⟨c,off,an⟩:=a;obtain rfl:an=U:=(by simpa [Addr.add] using hs);exact⟨o,v,c,off,rfl,λj u g=>by have:=r j u g;rw[Xg,Xg] at this;exact this⟩
 obtain⟨os,N,o2⟩:=zcK d ah;exact⟨os,N.symm,by rw[N];exact zgN (Nat.mul_le_mul_right _ (Nat.le_add_right _ _)) ak,o2⟩
theorem zgz {W:E}{a0:Option Addr}{m c:Nat}{d0:DataW H}{p:List MemPlace}(F:DataW.Trod enc V W 0 (λ_=>G) G 25 (K a0 m c) d0 p)(hz:(d0.weights V 25).all (·<=reachBytes)=G):∃ns:List Nd,m=ns.length/\vA W (K a0 m c) ns/\ns.length<2932031007402:=by
 obtain⟨ns,a,d,g⟩:=zcL Nd.cells (λ_=>True) (k:=4) (b:=48) od underlying25 Tryz.cellsNdV Tryz.bytesNdV (λ_=>rfl) (λn r x h _=>by
  obtain⟨o,n,rfl,rfl,hl,hx,P⟩:=DataW.trod_struct underlying41 h;have e:∀i,i<4->∃y,o[i]?=I y:=λi S=>⟨_,zgE (by rw[hx];exact S)⟩
  have q:∀(j:Nat) (T:TypeId) (f:Field) y,_->f.type=T->f.offset=j->prog.cellsOf T=1->o[j]?=I y->DataW.trod enc V W 0 (λ_=>G) G n T ((r.drop j).take 1)=I y:=λj T f y a d g L N=>by
   have:=(P j f a).trans N;rw[d,g,L] at this;exact this
  obtain⟨y0,v⟩:=e 0 od;obtain⟨y1,w⟩:=e 1 od;obtain⟨y2,z⟩:=e 2 od;obtain⟨y3,B⟩:=e 3 od;obtain⟨k,r0,_,_⟩:=DataW.trod_int underlying3 (q 0 3 _ y0 rfl rfl rfl Tryz.cellsI1 v);obtain⟨f,r1,_,_⟩:=DataW.trod_int underlying3 (q 1 3 _ y1 rfl rfl rfl Tryz.cellsI1 w);obtain⟨s,r2,_,_⟩:=DataW.trod_string underlying9 (q 2 9 _ y2 rfl rfl rfl Tryz.cellsS1 z);obtain⟨t,r3,_,_⟩:=DataW.trod_string underlying9 (q 3 9 _ y3 rfl rfl rfl Tryz.cellsS1 B);refine⟨⟨k,f,s,t⟩,trivial,λj u l=>?_⟩
  match j,l with
  |0,rfl=>exact XM r0
  |1,rfl=>exact XM r1
  |2,rfl=>exact XM r2
  |3,rfl=>exact XM r3
  |j+4,l=>simp[Nd.cells] at l) F hz
 refine⟨ns,a,⟨a0,c,by rw[a],λi n X=>(g i n X).2⟩,?_⟩;unfold reachBytes at d;omega
theorem WI {W:E}{t e:TypeId}{n:Nat}{d:List Y}{y:DataW H×List MemPlace}(f:prog.underlying t=I (.slice e))(h:DataW.trod enc V W 0 (λ_=>G) G n t d=I y):∃a l c,d=[K a l c]:=by rcases open_slice f h with⟨b,_⟩|⟨a,T,j,m,n,g,i,b,_⟩;exact⟨_,_,_,b⟩;exact⟨_,_,_,b⟩
def scC (o:Sc×(Option Addr×Nat)×(Option Addr×Nat)):List Y:=o.1.cells o.2.1.1 o.2.1.2 o.2.2.1 o.2.2.2
theorem zcM {W:E}{a0:Option Addr}{L r:Nat}{d0:DataW H}{p:List MemPlace}(h0:DataW.Trod enc V W 0 (λ_=>G) G 26 (K a0 L r) d0 p)(a:(d0.weights V 26).all (·<=reachBytes)=G):∃ss:List Sc,L=ss.length/\vB W (K a0 L r) ss/\ss.length<1599289640355/\∀c∈ss,c.keys.length<8796093022207/\c.subs.length<17592186044417:=by
 obtain⟨os,d,t,l⟩:=zcL scC (λo=>ScL W o.1 o.2.1.1 o.2.1.2 o.2.2.1 o.2.2.2/\o.1.keys.length<8796093022207/\o.1.subs.length<17592186044417) (k:=6) (b:=88) od underlying26 Tryz.cellsScV Tryz.bytesScV (λ_=>rfl) (λn cs x h a=>by
  obtain⟨xs,n,rfl,rfl,hl,hx,hf⟩:=DataW.trod_struct underlying39 h;simp only[DataW.weights,underlying39] at a;have e:∀i,i<6->∃y,xs[i]?=I y:=λi w=>⟨_,zgE (by rw[hx];exact w)⟩
  have q:∀(j:Nat) (T:TypeId) (f:Field) y,_->f.type=T->f.offset=j->prog.cellsOf T=1->xs[j]?=I y->DataW.trod enc V W 0 (λ_=>G) G n T ((cs.drop j).take 1)=I y:=λj T f y d t l h4 h5=>by
   have:=(hf j f d).trans h5;rw[t,l,h4] at this;exact this
  obtain⟨y0,e0⟩:=e 0 od;obtain⟨y1,e1⟩:=e 1 od;obtain⟨y2,e2⟩:=e 2 od;obtain⟨X,e3⟩:=e 3 od;obtain⟨y4,e4⟩:=e 4 od;obtain⟨y5,e5⟩:=e 5 od;obtain⟨b,r0,_⟩:=DataW.trod_bool underlying4 (q 0 4 _ y0 rfl rfl rfl Tryz.cellsBV e0);obtain⟨s,r1,_,_⟩:=DataW.trod_string underlying9 (q 1 9 _ y1 rfl rfl rfl Tryz.cellsS1 e1);obtain⟨f,r2,_,_⟩:=DataW.trod_int underlying3 (q 2 3 _ y2 rfl rfl rfl Tryz.cellsI1 e2);have P:=q 3 37 _ X rfl rfl rfl Tryz.cellsSV e3;have S:=q 4 27 _ y4 rfl rfl rfl Tryz.cellsLV e4;obtain⟨m,r5,_,_⟩:=DataW.trod_int underlying3 (q 5 3 _ y5 rfl rfl rfl Tryz.cellsI1 e5);obtain⟨a3,l3,c3,r3⟩:=WI underlying37 P;obtain⟨a4,l4,c4,r4⟩:=WI underlying27 S;rw[r3] at P;rw[r4] at S;obtain⟨ts,ah,aD⟩:=strs_of2 (d0:=X.1) (p:=X.2) ⟨n,P⟩ a (j:=3) rfl (by rw[zgZ,e3];rfl);obtain⟨F,aC,aR⟩:=nums_of2 (d0:=y4.1) (p:=y4.2) ⟨n,S⟩ a (j:=4) rfl (by rw[zgZ,e4];rfl);have af:km W (λ_=>True) (K a4 l4 c4) F:=aC.imp_right (λ⟨g,N,aq,b1,_,b3⟩=>⟨g,N,aq,b1,trivial,b3⟩);obtain rfl:=ah.at'.1;obtain rfl:=af.at'.1;refine⟨(⟨b,s,f,ts,F,m⟩,(a3,c3),(a4,c4)),⟨⟨ah,af⟩,aD,by show F.length<_;omega⟩,λj u B=>?_⟩
  match j,B with
  |0,rfl=>exact XM r0
  |1,rfl=>exact XM r1
  |2,rfl=>exact XM r2
  |3,rfl=>exact XM r3
  |4,rfl=>exact XM r4
  |5,rfl=>exact XM r5
  |j+6,B=>simp[scC,Sc.cells] at B) h0 a
 refine⟨os.map (·.1),by rw[zil];exact d,⟨a0,r,by rw[zil,d],λi s hs=>?_⟩,?_,λc v=>?_⟩;rw[zgZ] at hs;obtain⟨o,z,rfl⟩:=zhd.1 hs;obtain⟨⟨p1,_⟩,ao,N,e,v⟩:=l i o z;exact⟨ao,N,_,_,_,_,e,p1,v⟩;rw[zil];unfold reachBytes at t;omega;obtain⟨o,z,rfl⟩:=zhF.1 v;obtain⟨i,w⟩:=zhN.1 z;exact(l i o w).1.2
end
end
section
open Go.ChangeShapes Go.WideShapes Go.ChangeAt Go.RowKit
set_option maxRecDepth 100000
theorem zgA (os:Os)(args:Array Y):laidMetH V Rows.validatedRow.laid ((World.doorLaid V 400 os).forCall (λ_ _=>0) ⟨#[],args,[]⟩).memory:=
 laidMetH_of_parts3 (fuel:=8) (laidMet_of_run' 8 om om) om om
theorem liftedV (os:Os)(ao:os.Started)(H:Type)(enc:TypeId×Y->H):ReturnsInHanded {} Tryz.checked os 4 .any (λw args=>(Rows.validatedSpec.pre enc V Tryz.f4 [] Z w args/\laidMetH V Rows.validatedRow.laid w)/\sizedMet enc V Tryz.f4 (OpenSpec.ofChange Rows.validatedSpec) Z w args) (Rows.validatedSpec.post enc V Tryz.f4 Z G Z Z):=by
 refine returnsInHanded_of_change_and (C:=Tryz.checked) (X:=λw _=>laidMetH V Rows.validatedRow.laid w) (λ_ _ _ hh h=>h.of_heap hh) Tryz.ownK ao om func4
  (ChangeSpec.witness_shaped (enc:=enc) (C:=Tryz.checked) (os:=os) (X:=λw _=>laidMetH V Rows.validatedRow.laid w) Z (World.doorLaid V 400 os) #[K U 0 0,K U 0 0] 8 rfl (World.shaped_of_RefB om om) om om om (zgA os _)) ?_
 intro W base args o c aw ai i _ aj S _;have k:∀(j:Nat) t v,Tryz.f4.params[j]?=I t->args[j]?=I v->Value.okWide V W .any base t v:=ai;have ac:=i;have z:=i.lt;obtain⟨p,q,N,ab,rfl,ay,az⟩:=i;have f:DataW.TrodAll enc V W 0 (λ_=>G) G Tryz.f4.params.toList args.toList o p:=N;have y:DataW.TrodVars enc V W (λ_=>G) [] c q:=ab;have P:=f;have b:(DataW.weightsEach V (Tryz.f4.params.toList++Rows.validatedSpec.plain.varTypes V) (o++c)).all (·<=reachBytes)=G:=aj;rw[Tryz.params4] at f k b;obtain⟨v0,v1,m,n,p0,p1,rfl,rfl,rfl,F,L⟩:=trodAll_two f;obtain⟨rfl,rfl⟩:c=[]/\q=[]:=by
  cases c with
  |nil=>exact⟨rfl,y⟩
  |cons g r=>exact absurd y (by intro h;cases h)
 obtain⟨a0,l0,c0,rfl⟩:=okWide_slice underlying25 (k 0 25 v0 rfl rfl);obtain⟨a1,l1,c1,rfl⟩:=okWide_slice underlying26 (k 1 26 v1 rfl rfl);rw[show Rows.validatedSpec.plain.varTypes V=[] from rfl] at b;simp only[zhc,DataW.weightsEach,List.all_append,zhb] at b;obtain⟨ns,rfl,hN,hn⟩:=zgz F b.1;obtain⟨ss,rfl,T,hm,hl⟩:=zcM L b.2;obtain⟨a,s⟩:=VB S;have d:Rows.validatedSpec.fn H ([m,n]++[]) = { results:=[.lit (.bool G)],args:=[m,n] }:=by simp[Rows.validatedSpec]
 refine(zdo ns ss _ _ _ _ a W s.st s.tab hN T hn hm hl).mono λe W' ⟨he,u⟩=>?_;subst he;refine⟨_,rfl,_,_,_,[],p0++p1,[],ac,?_,?_,?_,u.below.frame _,λh=>by cases h⟩;rw[d];exact trodAll_mk1 (shut_bool underlying4 G);rw[d];exact XD u (DataW.TrodAll.respare Tryz.kids Tryz.full (by rw[Tryz.params4];intro t B;simp at B;rcases B with rfl|rfl<;>(rw[Tryz.nTypes];decide)) P (λx l=>by simpa using z x (zh1 _ l))) (λx l=>z x (zh1 _ l));rw[d];rfl
theorem JW:Rows.ValidatedSaid:=
 OpenClaim.holds_of_wide 4 Tryz.f4 rfl rfl rfl rfl rfl rfl rfl ⟨rfl,rfl,rfl,rfl,rfl⟩ rfl rfl rfl rfl rfl om func4 closedVd
  (of_decide_eq_true om) (by unfold Func.isWrapper;rw[iN (of_decide_eq_false om)];exact⟨rfl,rfl⟩)
  (λa b H enc _=>liftedV a b H enc)
theorem cardVd_holds:Rows.ValidatedCardSaid:=
 Claim7.holds_tied_plain_at .later [] Rows.validatedCard.laidKinds G Rows.validatedCard.stood.harness G
  JW (λ_ h=>by cases h) om (λ_ h=>by cases h) validated_row_tie rfl ⟨rfl,rfl⟩ om rfl
  (λf b d e=>by
   obtain rfl : f = 4 := zg0 ((show prog.funcNamed "lineal/lineallaw.Validated" = I 4 by kernel_rfl).symm.trans d) |>.symm;obtain rfl:b=Tryz.f4:=(zg0 (func4.symm.trans e)).symm;exact ⟨by kernel_rfl,fun j t a=>by
    rw[Tryz.params4] at a;have c:t=25\/t=26:=by
     rcases j with _|_|j
     .exact Q (by simpa using a.symm)
     .exact O (by simpa using a.symm)
     .simp at a
    rcases c with rfl|rfl
    .exact(show prog.wantsStandIn 25=Z by kernel_rfl)
    .exact(show prog.wantsStandIn 26=Z by kernel_rfl)⟩)
  om
#print axioms cardVd_holds
end
