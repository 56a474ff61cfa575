/- The statement's law at whatever bytes, and its row's form. For every string the statement 'lineallaw.Compiles' answers true: at whatever bytes the program's Compile tells the error, the place and the size that the document's answer tells. Its conditions: those of the given card alone (the listed package-level variables are as the program's text lays them). -/
import Derived.Test.YtnagphodmfejiaaGreatDoorKCmpAFinK
import Derived.Test.YtnagphodmfejiaaGreatDoorTie
import Derived.Test.YtnagphodmfejiaaGreatDoorCards
import Derived.ProofKit
import Derived.LaidMore
import Derived.OpenShut
import Derived.SevenTiedAt
namespace Go.Proofs.YtnagphodmfejiaaGreatDoor
open Go.ChangeShapes Go.WideShapes Go.ChangeAt Go.RowKit
open Go.ChangeMaps (open_string shut_string)
theorem OpAt.new (w : World) (s : ByteArray) : OpAt (w.alloc (.cells #[.int .i64 1, .int .i64 0, .int .i64 0, .int .i64 0, .string s, .slice none 0 0, .slice none 0 0, .slice none 0 0] 27)) w.heap.size s :=
 ⟨new_cell w _ rfl _ _ 0 _ rfl, new_cell w _ rfl _ _ 1 _ rfl, new_cell w _ rfl _ _ 2 _ rfl, new_cell w _ rfl _ _ 3 _ rfl, new_cell w _ rfl _ _ 4 _ rfl, new_cell w _ rfl _ _ 5 _ rfl, new_cell w _ rfl _ _ 6 _ rfl, new_cell w _ rfl _ _ 7 _ rfl⟩
set_option maxHeartbeats 4000000 in
set_option maxRecDepth 1000000 in
theorem law_any (s : ByteArray) (w : World) (a : Nat → Addr) (hS : Start w a) :
   Calls Tryz.prog 3 #[.string s] w fun e w' => e = .returned (.bool true) ∧ Only (fun _ => False) w w' := by
 have HP : Hid (∀ n w1, Only (fun _ => False) w w1 → OpAt w1 n s → Calls Tryz.prog 5 #[.slice (some ⟨n, 0, none⟩) 1 1, .int .i64 2, .int .i64 2] w1 fun e w' => e = .returned (.bool true) ∧ Only (fun _ => False) w1 w') := by
   intro n w1 h1 hN
   rcases both_tell s with ⟨k, p, k1, k2, hr, hp⟩ | ⟨v, t, v0, v1, ht, hr, hp⟩
   · exact play_no n s k p w1 a (hS.keep h1) k1 k2 hr hp hN
   · exact play_yes n s t v w1 a ht (hS.keep h1) v0 v1 hr hp hN
 clear hS
 go_enter Tryz.func3, Tryz.ntmps3
 go_wp2_with (go_at_call 5; refine (unhide HP _ _ ((Only.refl _ _).alloc _) (OpAt.new w s)).mono ?_; rintro e w1 ⟨rfl, hO1⟩)
 go_ret
 exact ⟨rfl, ((Only.refl _ _).alloc _).trans hO1⟩
theorem door_met (os : Os) (args : Array Value) : laidMetH Tryz.prog Rows.compilesRow.laid ((World.doorLaid Tryz.prog 400 os).forCall (fun _ _ => 0) ⟨#[], args, []⟩).memory :=
 laidMetH_of_parts3 (fuel := 8) (laidMet_of_run' 8 (by kernel_rfl) (by kernel_rfl)) (by kernel_rfl) (by kernel_rfl)
set_option maxRecDepth 100000 in
theorem lifted (os : Os) (started : os.Started) (H : Type) (enc : TypeId × Value → H) :
   ReturnsInHanded {} Tryz.checked os 3 .any (fun w args => (Rows.compilesSpec.pre enc Tryz.prog Tryz.f3 [] false w args ∧ laidMetH Tryz.prog Rows.compilesRow.laid w) ∧ sizedMet enc Tryz.prog Tryz.f3 (OpenSpec.ofChange Rows.compilesSpec) false w args)
     (Rows.compilesSpec.post enc Tryz.prog Tryz.f3 false true false false) := by
 refine returnsInHanded_of_change_and (C := Tryz.checked) (X := fun w _ => laidMetH Tryz.prog Rows.compilesRow.laid w) (fun _ _ _ hh h => h.of_heap hh) Tryz.ownK started (by kernel_rfl) Tryz.func3
   (ChangeSpec.witness_shaped (enc := enc) (C := Tryz.checked) (os := os) (X := fun w _ => laidMetH Tryz.prog Rows.compilesRow.laid w) false (World.doorLaid Tryz.prog 400 os) #[.string ByteArray.empty] 8 rfl (World.shaped_of_RefB (by kernel_rfl) (by kernel_rfl)) (by kernel_rfl) (by kernel_rfl) (by kernel_rfl) (door_met os _)) ?_
 intro W base args ds gs before hval0 hW _ _ hL _
 have hval : ∀ (j : Nat) t v, Tryz.f3.params[j]? = some t → args[j]? = some v → Value.okWide Tryz.prog W .any base t v := hval0
 have hW' := hW
 obtain ⟨p, q, hA0, hV0, rfl, hfz, hnd⟩ := hW
 have hA : DataW.TrodAll enc Tryz.prog W 0 (fun _ => true) true Tryz.f3.params.toList args.toList ds p := hA0
 have hV : DataW.TrodVars enc Tryz.prog W (fun _ => true) [] gs q := hV0
 rw [Tryz.params3] at hA hval
 obtain ⟨v0, d0, rfl, rfl, h0⟩ := trodAll_one hA
 obtain ⟨s, rfl, rfl, rfl, hs⟩ := open_string Tryz.underlying9 (hval 0 9 v0 rfl rfl) h0
 obtain ⟨rfl, rfl⟩ : gs = [] ∧ q = [] := by
   cases gs with
   | nil => exact ⟨rfl, hV⟩
   | cons g r => exact absurd hV (by intro h; cases h)
 obtain ⟨a, hS⟩ := start_of_laid hL
 have e1 : Rows.compilesSpec.fn H ([.lit (.string s.data.toList)] ++ []) = { results := [.lit (.bool true)], args := [.lit (.string s.data.toList)] } := by simp [Rows.compilesSpec]
 refine (law_any s W a hS).mono fun e W' ⟨he, hO⟩ => ?_
 subst he
 refine ⟨_, rfl, _, _, _, [], [], [], hW', ?_, ?_, ?_, hO.below.frame _, fun h => by cases h⟩
 · rw [e1]; exact trodAll_mk1 (shut_bool Tryz.underlying4 true)
 · rw [e1]; exact trodAll_mk1 (shut_string Tryz.underlying9 hs)
 · rw [e1]; rfl
end Go.Proofs.YtnagphodmfejiaaGreatDoor
namespace Go.Proofs.YtnagphodmfejiaaGreatDoor
open Go.ChangeShapes Go.WideShapes Go.ChangeAt Go.RowKit
theorem compiles_holds : Rows.CompilesSaid :=
 OpenClaim.holds_of_wide 3 Tryz.f3 rfl rfl rfl rfl rfl rfl rfl ⟨rfl, rfl, rfl, rfl, rfl⟩ rfl rfl rfl rfl rfl (by kernel_rfl) Tryz.func3 closed
   (of_decide_eq_true (by kernel_rfl)) (by unfold Func.isWrapper; rw [if_neg (of_decide_eq_false (by kernel_rfl))]; exact ⟨rfl, rfl⟩)
   (fun os started H enc _ => lifted os started H enc)
theorem card_holds : Rows.CompilesCardSaid :=
 Claim7.holds_tied_plain_at .later [] Rows.compilesCard.laidKinds true Rows.compilesCard.stood.harness true
   compiles_holds (fun _ h => by cases h) (by kernel_rfl) (fun _ h => by cases h) compiles_row_tie rfl ⟨rfl, rfl⟩ (by kernel_rfl) rfl
   (fun f fn hf hfn => by
     obtain rfl : f = 3 := Option.some.inj ((show Tryz.prog.funcNamed "lineal/lineallaw.Compiles" = some 3 by kernel_rfl).symm.trans hf) |>.symm
     obtain rfl : fn = Tryz.f3 := (Option.some.inj (Tryz.func3.symm.trans hfn)).symm
     exact ⟨by kernel_rfl, fun j t ht => by
       rw [Tryz.params3] at ht
       have h3 : t = 9 := by
         rcases j with _ | j
         · simpa using ht.symm
         · simp at ht
       subst h3
       exact (show Tryz.prog.wantsStandIn 9 = false by kernel_rfl)⟩)
   (by kernel_rfl)
#print axioms card_holds
end Go.Proofs.YtnagphodmfejiaaGreatDoor
