/- Somewhere at whatever arguments of bounded bulk, and its row's form. -/
import Derived.Test.YtfnkbmglodopkaaGreatDoorZUnB
import Derived.Test.YtfnkbmglodopkaaGreatDoorZKcJ
import Derived.Deep.DeepHandedRow
import Derived.Deep.DeepWitnessRowRef
namespace Go.Proofs.YtfnkbmglodopkaaGreatDoor
section
open Go.ChangeShapes Go.WideShapes Go.ChangeAt Go.RowKit
open Go.ChangeMaps (open_string)
set_option maxRecDepth 100000
theorem VU (os:Os)(args:Array Value):laidMetH Tryz.prog Rows.somewhereUptoRow.laid ((World.doorLaid Tryz.prog 400 os).forCall (fun _ _=>0) ⟨#[],args,[]⟩).memory:=
 laidMetH_of_parts3 (fuel:=8) (laidMet_of_run' 8 (by kernel_rfl) (by kernel_rfl)) (by kernel_rfl) (by kernel_rfl)
theorem readsS (os:Os){H:Type}(enc:TypeId×Value→H):∃ places,DataW.whole enc Tryz.prog ((World.doorLaid Tryz.prog 400 os).forCall (fun _ _=>0) ⟨#[],#[.string ByteArray.empty,.slice none 0 0,.int .i64 0,.slice none 0 0],[]⟩).memory Tryz.f12.params.toList Rows.somewhereSpec.vars false #[Value.string ByteArray.empty,.slice none 0 0,.int .i64 0,.slice none 0 0].toList 8=some ([.lit (.string []),.nil,.lit (.int .i64 0),.nil],[],places):=
 ⟨[],by kernel_rfl⟩
theorem VV (H:Type)(enc:TypeId×Value→H)(W:World)(base:Nat)(args:Array Value)(ds gs:List (DataW H))(before:List MemPlace)
  (hval0:∀ (j:Nat) t v,Tryz.f12.params[j]?=some t→args[j]?=some v→Value.okWide Tryz.prog W .any base t v)
  (hW:DataW.Whole enc Tryz.prog Tryz.f12.params.toList Rows.somewhereSpec.vars false W args.toList ds gs before) (hc:Rows.uptoSmall H (ds++gs)=true)
  (hz0:(DataW.weightsEach Tryz.prog (Tryz.f12.params.toList++Rows.somewhereSpec.plain.varTypes Tryz.prog) (ds++gs)).all (·≤reachBytes)=true)
  (hL:laidMetH Tryz.prog Rows.somewhereUptoRow.laid W) :
  Calls Tryz.prog 12 args W fun e W'=>∃ v,e = .returned v∧Rows.somewhereSpec.post enc Tryz.prog Tryz.f12 false true false false W args v W':=by
 have hval:=hval0
 have hW':=hW
 have hlt:=hW.lt
 obtain ⟨p,q,hA0,hV0,rfl,hfz,hnd⟩:=hW
 have hA:DataW.TrodAll enc Tryz.prog W 0 (fun _=>true) true Tryz.f12.params.toList args.toList ds p:=hA0
 have hV:DataW.TrodVars enc Tryz.prog W (fun _=>true) [] gs q:=hV0
 have hA1:=hA
 have hz:=hz0
 rw [Tryz.params12] at hA hval hz
 obtain ⟨v0,vs0,d0,ds0,q0,r0,e0,rfl,f0,h0,hA⟩:=trodAll_cons hA
 obtain ⟨v1,vs1,d1,ds1,q1,r1,e1,rfl,f1,h1,hA⟩:=trodAll_cons hA
 obtain ⟨v2,vs2,d2,ds2,q2,r2,e2,rfl,f2,h2,hA⟩:=trodAll_cons hA
 obtain ⟨v3,vs3,d3,ds3,q3,r3,e3,rfl,f3,h3,hA⟩:=trodAll_cons hA
 obtain ⟨e4,rfl,f4⟩:=trodAll_nil hA
 obtain rfl:args=#[v0,v1,v2,v3]:=by
  rw [e4] at e3
  rw [e3] at e2
  rw [e2] at e1
  rw [e1] at e0
  cases args
  simp_all
 obtain ⟨rfl,rfl⟩:gs=[]∧q=[]:=by
  cases gs with
  |nil=>exact ⟨rfl,hV⟩
  |cons g r=>exact absurd hV (by intro h;cases h)
 obtain ⟨s,rfl,_,_,hs⟩:=open_string Tryz.underlying9 (hval 0 9 v0 rfl rfl) h0
 obtain ⟨a1,l1,c1,rfl⟩:=okWide_slice Tryz.underlying64 (hval 1 64 v1 rfl rfl)
 obtain ⟨n2,rfl⟩:=okWide_int Tryz.underlying3 (hval 2 3 v2 rfl rfl)
 obtain ⟨a3,l3,c3,rfl⟩:=okWide_slice Tryz.underlying28 (hval 3 28 v3 rfl rfl)
 rw [show Rows.somewhereSpec.plain.varTypes Tryz.prog=[] from rfl] at hz
 have hb:=small_of hc
 obtain ⟨ts,hN,hn,hsz⟩:=Wf h1 (Nat.le_trans (K0 (by simp)) hb)
 obtain ⟨ks,hK,hk⟩:=nums_of h3 (j:=3) hz rfl rfl
 obtain ⟨w2a,w2b⟩:=Ka h2
 obtain ⟨a,hB⟩:=YK hL
 have e9:Rows.somewhereSpec.fn H ([d0,d1,d2,d3]++[]) = { results:=[.lit (.bool true)],args:=[d0,d1,d2,d3] }:=by simp [Rows.somewhereSpec]
 refine (YI s ts _ _ n2 ks W a hB hN hK (by omega) hk w2a w2b (fun t ht=>Nat.le_trans (hsz t ht) (by decide))).mono fun e W' ⟨he,hO⟩=>?_
 subst he
 refine ⟨_,rfl,_,_,_,[],p,[],hW',?_,?_,?_,hO.below.frame _,fun h=>by cases h⟩
 ·rw [e9];exact trodAll_mk1 (shut_bool Tryz.underlying4 true)
 ·rw [e9]
  exact vC hO (DataW.TrodAll.respare Tryz.kids Tryz.full (by rw [Tryz.params12];intro t ht;rw [Tryz.nTypes];exact (show ∀ t∈[9,64,3,28],t<475 by decide) t ht) hA1 (fun x hx=>by simpa using hlt x (List.mem_append_left _ hx))) (fun x hx=>hlt x (List.mem_append_left _ hx))
 ·rw [e9];rfl
theorem liftedS (os:Os)(started:os.Started)(H:Type)(enc:TypeId×Value→H)(F:Stop.Interp) :
  ReturnsInHanded {} Tryz.checked os 12 .any ((Rows.OpenSpec.upto Rows.somewhereSpec).preRow enc Tryz.prog Tryz.f12 Rows.somewhereUptoRow.domain false Rows.somewhereUptoRow.laid) (((Rows.OpenSpec.upto Rows.somewhereSpec).at F).post enc Tryz.prog Tryz.f12 false true false false):=by
 obtain ⟨places,hx⟩:=readsS os enc
 refine returnsInHanded_of_row (C:=Tryz.checked) (s:=Rows.OpenSpec.upto Rows.somewhereSpec) Tryz.ownK started (by kernel_rfl) Tryz.func12
  (witness_row_atRef (enc:=enc) (C:=Tryz.checked) false (World.doorLaid Tryz.prog 400 os) #[.string ByteArray.empty,.slice none 0 0,.int .i64 0,.slice none 0 0] rfl (by kernel_rfl) (by kernel_rfl) (by kernel_rfl)
   (OpenSpec.preRow_of_cond 8 hx (by kernel_rfl) (fun k hk=>by cases hk;kernel_rfl) (by kernel_rfl) (VU os _))) ?_
 intro W base args ds gs before hval hW _ hcond hz hL _ _
 exact VV H enc W base args ds gs before hval hW (hcond _ rfl) hz hL
end
end Go.Proofs.YtfnkbmglodopkaaGreatDoor
