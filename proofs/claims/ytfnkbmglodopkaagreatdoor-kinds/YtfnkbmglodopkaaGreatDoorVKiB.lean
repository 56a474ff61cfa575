/- Kinds at whatever arguments, and its row's form. -/
import Derived.Test.YtfnkbmglodopkaaGreatDoorVUnB
import Derived.Test.YtfnkbmglodopkaaGreatDoorVKnH
import Derived.Deep.DeepHandedRow
import Derived.Deep.DeepWitnessRowRef
namespace Go.Proofs.YtfnkbmglodopkaaGreatDoor
section
open Go.ChangeShapes Go.WideShapes Go.ChangeAt Go.RowKit
open Go.ChangeMaps (open_string)
set_option maxRecDepth 100000
theorem zdO (os:Os)(args:Array Value):laidMetH Tryz.prog Rows.kindsRow.laid ((World.doorLaid Tryz.prog 400 os).forCall (fun _ _=>0) ⟨#[],args,[]⟩).memory:=
 laidMetH_of_parts3 (fuel:=8) (laidMet_of_run' 8 (by kernel_rfl) (by kernel_rfl)) (by kernel_rfl) (by kernel_rfl)
theorem readsK (os:Os){H:Type}(enc:TypeId×Value→H):∃ places,DataW.whole enc Tryz.prog ((World.doorLaid Tryz.prog 400 os).forCall (fun _ _=>0) ⟨#[],#[.int .i64 0,.int .i64 0],[]⟩).memory Tryz.f9.params.toList Rows.kindsSpec.vars false #[Value.int .i64 0,.int .i64 0].toList 8=some ([.lit (.int .i64 0),.lit (.int .i64 0)],[],places):=
 ⟨[],by kernel_rfl⟩
theorem zdP (H:Type)(enc:TypeId×Value→H)(W:World)(base:Nat)(args:Array Value)(ds gs:List (DataW H))(before:List MemPlace)
  (hval0:∀ (j:Nat) t v,Tryz.f9.params[j]?=some t→args[j]?=some v→Value.okWide Tryz.prog W .any base t v)
  (hW:DataW.Whole enc Tryz.prog Tryz.f9.params.toList Rows.kindsSpec.vars false W args.toList ds gs before)
  (hL:laidMetH Tryz.prog Rows.kindsRow.laid W) :
  Calls Tryz.prog 9 args W fun e W'=>∃ v,e = .returned v∧Rows.kindsSpec.post enc Tryz.prog Tryz.f9 false true false false W args v W':=by
 have hval:=hval0
 have hW':=hW
 have hlt:=hW.lt
 obtain ⟨p,q,hA0,hV0,rfl,hfz,hnd⟩:=hW
 have hA:DataW.TrodAll enc Tryz.prog W 0 (fun _=>true) true Tryz.f9.params.toList args.toList ds p:=hA0
 have hV:DataW.TrodVars enc Tryz.prog W (fun _=>true) [] gs q:=hV0
 have hA1:=hA
 rw [Tryz.params9] at hA hval
 obtain ⟨v0,vs0,d0,ds0,q0,r0,e0,rfl,f0,h0,hA⟩:=trodAll_cons hA
 obtain ⟨v1,vs1,d1,ds1,q1,r1,e1,rfl,f1,h1,hA⟩:=trodAll_cons hA
 obtain ⟨e2,rfl,f2⟩:=trodAll_nil hA
 obtain rfl:args=#[v0,v1]:=by
  rw [e2] at e1
  rw [e1] at e0
  cases args
  simp_all
 obtain ⟨rfl,rfl⟩:gs=[]∧q=[]:=by
  cases gs with
  |nil=>exact ⟨rfl,hV⟩
  |cons g r=>exact absurd hV (by intro h;cases h)
 obtain ⟨n0,rfl⟩:=okWide_int Tryz.underlying3 (hval 0 3 v0 rfl rfl)
 obtain ⟨x0,y0⟩:=zak h0
 obtain ⟨n1,rfl⟩:=okWide_int Tryz.underlying3 (hval 1 3 v1 rfl rfl)
 obtain ⟨x1,y1⟩:=zak h1
 obtain ⟨a,hB⟩:=qI hL
 have e9:Rows.kindsSpec.fn H ([d0,d1]++[]) = { results:=[.lit (.bool true)],args:=[d0,d1] }:=by simp [Rows.kindsSpec]
 refine (kindsLaw n0 n1 W a hB  x0 y0 x1 y1).mono fun e W' ⟨he,hO⟩=>?_
 subst he
 refine ⟨_,rfl,_,_,_,[],p,[],hW',?_,?_,?_,hO.below.frame _,fun h=>by cases h⟩
 ·rw [e9];exact trodAll_mk1 (shut_bool Tryz.underlying4 true)
 ·rw [e9]
  exact qd hO (DataW.TrodAll.respare Tryz.kids Tryz.full (by rw [Tryz.params9];intro t ht;rw [Tryz.nTypes];exact (show ∀ t∈[3,3],t<475 by decide) t ht) hA1 (fun x hx=>by simpa using hlt x (List.mem_append_left _ hx))) (fun x hx=>hlt x (List.mem_append_left _ hx))
 ·rw [e9];rfl
theorem liftedK (os:Os)(started:os.Started)(H:Type)(enc:TypeId×Value→H)(F:Stop.Interp) :
  ReturnsInHanded {} Tryz.checked os 9 .any ((OpenSpec.ofChange Rows.kindsSpec).preRow enc Tryz.prog Tryz.f9 Rows.kindsRow.domain false Rows.kindsRow.laid) (((OpenSpec.ofChange Rows.kindsSpec).at F).post enc Tryz.prog Tryz.f9 false true false false):=by
 obtain ⟨places,hx⟩:=readsK os enc
 refine returnsInHanded_of_row (C:=Tryz.checked) (s:=OpenSpec.ofChange Rows.kindsSpec) Tryz.ownK started (by kernel_rfl) Tryz.func9
  (witness_row_atRef (enc:=enc) (C:=Tryz.checked) false (World.doorLaid Tryz.prog 400 os) #[.int .i64 0,.int .i64 0] rfl (by kernel_rfl) (by kernel_rfl) (by kernel_rfl)
   (OpenSpec.preRow_of_cond 8 hx (by kernel_rfl) (fun k hk=>by cases hk) (by kernel_rfl) (zdO os _))) ?_
 intro W base args ds gs before hval hW _ _ _ hL _ _
 exact zdP H enc W base args ds gs before hval hW hL
end
end Go.Proofs.YtfnkbmglodopkaaGreatDoor
