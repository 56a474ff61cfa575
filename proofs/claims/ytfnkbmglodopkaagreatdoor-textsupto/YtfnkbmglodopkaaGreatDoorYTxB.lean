/- Texts at whatever arguments of bounded bulk, and its row's form. -/
import Derived.Test.YtfnkbmglodopkaaGreatDoorYUnB
import Derived.Test.YtfnkbmglodopkaaGreatDoorYTeOTeB
import Derived.Deep.DeepHandedRow
import Derived.Deep.DeepWitnessRowRef
namespace Go.Proofs.YtfnkbmglodopkaaGreatDoor
section
open Go.ChangeShapes Go.WideShapes Go.ChangeAt Go.RowKit
open Go.ChangeMaps (open_string)
set_option maxRecDepth 100000
theorem zc5 (os:Os)(args:Array Value):laidMetH Tryz.prog Rows.textsUptoRow.laid ((World.doorLaid Tryz.prog 400 os).forCall (fun _ _=>0) ⟨#[],args,[]⟩).memory:=
 laidMetH_of_parts3 (fuel:=8) (laidMet_of_run' 8 (by kernel_rfl) (by kernel_rfl)) (by kernel_rfl) (by kernel_rfl)
theorem readsT (os:Os){H:Type}(enc:TypeId×Value→H):∃ places,DataW.whole enc Tryz.prog ((World.doorLaid Tryz.prog 400 os).forCall (fun _ _=>0) ⟨#[],#[.string ByteArray.empty],[]⟩).memory Tryz.f3.params.toList Rows.textsSpec.vars false #[Value.string ByteArray.empty].toList 8=some ([.lit (.string [])],[],places):=
 ⟨[],by kernel_rfl⟩
theorem zc6 (H:Type)(enc:TypeId×Value→H)(W:World)(base:Nat)(args:Array Value)(ds gs:List (DataW H))(before:List MemPlace)
  (hval0:∀ (j:Nat) t v,Tryz.f3.params[j]?=some t→args[j]?=some v→Value.okWide Tryz.prog W .any base t v)
  (hW:DataW.Whole enc Tryz.prog Tryz.f3.params.toList Rows.textsSpec.vars false W args.toList ds gs before) (hc:Rows.uptoSmall H (ds++gs)=true)
  (hL:laidMetH Tryz.prog Rows.textsUptoRow.laid W) :
  Calls Tryz.prog 3 args W fun e W'=>∃ v,e = .returned v∧Rows.textsSpec.post enc Tryz.prog Tryz.f3 false true false false W args v W':=by
 have hval:=hval0
 have hW':=hW
 have hlt:=hW.lt
 obtain ⟨p,q,hA0,hV0,rfl,hfz,hnd⟩:=hW
 have hA:DataW.TrodAll enc Tryz.prog W 0 (fun _=>true) true Tryz.f3.params.toList args.toList ds p:=hA0
 have hV:DataW.TrodVars enc Tryz.prog W (fun _=>true) [] gs q:=hV0
 have hA1:=hA
 rw [Tryz.params3] at hA hval
 obtain ⟨v0,vs0,d0,ds0,q0,r0,e0,rfl,f0,h0,hA⟩:=trodAll_cons hA
 obtain ⟨e1,rfl,f1⟩:=trodAll_nil hA
 obtain rfl:args=#[v0]:=by
  rw [e1] at e0
  cases args
  simp_all
 obtain ⟨rfl,rfl⟩:gs=[]∧q=[]:=by
  cases gs with
  |nil=>exact ⟨rfl,hV⟩
  |cons g r=>exact absurd hV (by intro h;cases h)
 have hb:=wO hc
 have b0:Rows.uptoBulk d0≤1048576:=Nat.le_trans (qP (by simp)) hb
 obtain ⟨s0,rfl,g0,_,_⟩:=open_string Tryz.underlying9 (hval 0 9 v0 rfl rfl) h0
 have z0:s0.size≤1099511627776:=by have:=xP (H:=H) s0;rw [←g0] at this;omega
 obtain ⟨a,hB⟩:=qI hL
 have e9:Rows.textsSpec.fn H ([d0]++[]) = { results:=[.lit (.bool true)],args:=[d0] }:=by simp [Rows.textsSpec]
 refine (zcX s0 W a hB z0 ).mono fun e W' ⟨he,hO⟩=>?_
 subst he
 refine ⟨_,rfl,_,_,_,[],p,[],hW',?_,?_,?_,hO.below.frame _,fun h=>by cases h⟩
 ·rw [e9];exact trodAll_mk1 (shut_bool Tryz.underlying4 true)
 ·rw [e9]
  exact qd hO (DataW.TrodAll.respare Tryz.kids Tryz.full (by rw [Tryz.params3];intro t ht;rw [Tryz.nTypes];exact (show ∀ t∈[9],t<475 by decide) t ht) hA1 (fun x hx=>by simpa using hlt x (List.mem_append_left _ hx))) (fun x hx=>hlt x (List.mem_append_left _ hx))
 ·rw [e9];rfl
theorem liftedT (os:Os)(started:os.Started)(H:Type)(enc:TypeId×Value→H)(F:Stop.Interp) :
  ReturnsInHanded {} Tryz.checked os 3 .any ((Rows.OpenSpec.upto Rows.textsSpec).preRow enc Tryz.prog Tryz.f3 Rows.textsUptoRow.domain false Rows.textsUptoRow.laid) (((Rows.OpenSpec.upto Rows.textsSpec).at F).post enc Tryz.prog Tryz.f3 false true false false):=by
 obtain ⟨places,hx⟩:=readsT os enc
 refine returnsInHanded_of_row (C:=Tryz.checked) (s:=Rows.OpenSpec.upto Rows.textsSpec) Tryz.ownK started (by kernel_rfl) Tryz.func3
  (witness_row_atRef (enc:=enc) (C:=Tryz.checked) false (World.doorLaid Tryz.prog 400 os) #[.string ByteArray.empty] rfl (by kernel_rfl) (by kernel_rfl) (by kernel_rfl)
   (OpenSpec.preRow_of_cond 8 hx (by kernel_rfl) (fun k hk=>by cases hk;kernel_rfl) (by kernel_rfl) (zc5 os _))) ?_
 intro W base args ds gs before hval hW _ hcond _ hL _ _
 exact zc6 H enc W base args ds gs before hval hW (hcond _ rfl) hL
end
end Go.Proofs.YtfnkbmglodopkaaGreatDoor
