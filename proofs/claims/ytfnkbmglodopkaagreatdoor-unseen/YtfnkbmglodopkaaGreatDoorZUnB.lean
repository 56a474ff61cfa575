/- Unseen at whatever arguments, and its row's form. -/
import Derived.Test.YtfnkbmglodopkaaGreatDoorZUnA
import Derived.Test.YtfnkbmglodopkaaGreatDoorZLinALinG
import Derived.Test.YtfnkbmglodopkaaGreatDoorZKeA
import Derived.Test.YtfnkbmglodopkaaGreatDoorTie
import Derived.Test.YtfnkbmglodopkaaGreatDoorCards
import Derived.ProofKit
import Derived.LaidMore
import Derived.OpenShut
import Derived.SevenTiedAt
import Derived.ReadAgain
namespace Go.Proofs.YtfnkbmglodopkaaGreatDoor
section
open Go.ChangeShapes Go.WideShapes Go.ChangeAt Go.RowKit
open Go.ChangeMaps (open_string)
set_option maxRecDepth 100000
theorem Tryz.kids : Kids Tryz.prog (· < Tryz.prog.types.size) := kids_rows (by kernel_rfl) (by kernel_rfl)
theorem Tryz.full : ∀ t e, t < Tryz.prog.types.size → Tryz.prog.underlying t = some (.slice e) → 0 < Tryz.prog.cellsOf e := slices_full_of Tryz.prog (by kernel_rfl)
section
variable {H : Type} {enc : TypeId × Value → H}
theorem trodAll_later {W W' : World} {sp : Nat → Bool} (hO : Only (fun _ => False) W W') : ∀ {ts : List TypeId} {vs : List Value} {ds : List (DataW H)} {ps : List MemPlace}, DataW.TrodAll enc Tryz.prog W 0 sp true ts vs ds ps → (∀ q ∈ ps, q.block < W.heap.size) → DataW.TrodAll enc Tryz.prog W' 0 sp true ts vs ds ps
 | [], [], [], _, h, _ => h
 | _ :: _, _ :: _, _ :: _, _, ⟨p, q, ⟨n, h1⟩, h2, e⟩, hl => ⟨p, q, ⟨n, DataW.trod_carry n _ _ _ h1 (fun x hx => by
     have hx' := hl x (by rw [e]; exact List.mem_append_left _ hx)
     cases x with
     | cell b off => exact hO.cell (p := ⟨b, off, none⟩) hx' (fun f => f)
     | map b => exact hO.block b hx' (fun f => f))⟩, trodAll_later hO h2 (fun x hx => hl x (by rw [e]; exact List.mem_append_right _ hx)), e⟩
end
theorem door_metU (os : Os) (args : Array Value) : laidMetH Tryz.prog Rows.unseenRow.laid ((World.doorLaid Tryz.prog 400 os).forCall (fun _ _ => 0) ⟨#[], args, []⟩).memory :=
 laidMetH_of_parts3 (fuel := 8) (laidMet_of_run' 8 (by kernel_rfl) (by kernel_rfl)) (by kernel_rfl) (by kernel_rfl)
theorem liftedU (os : Os) (started : os.Started) (H : Type) (enc : TypeId × Value → H) :
   ReturnsInHanded {} Tryz.checked os 13 .any (fun w args => (Rows.unseenSpec.pre enc Tryz.prog Tryz.f13 [] false w args ∧ laidMetH Tryz.prog Rows.unseenRow.laid w) ∧ sizedMet enc Tryz.prog Tryz.f13 (OpenSpec.ofChange Rows.unseenSpec) false w args)
     (Rows.unseenSpec.post enc Tryz.prog Tryz.f13 false true false false) := by
 refine returnsInHanded_of_change_and (C := Tryz.checked) (X := fun w _ => laidMetH Tryz.prog Rows.unseenRow.laid w) (fun _ _ _ hh h => h.of_heap hh) Tryz.ownK started (by kernel_rfl) Tryz.func13
   (ChangeSpec.witness_shaped (enc := enc) (C := Tryz.checked) (os := os) (X := fun w _ => laidMetH Tryz.prog Rows.unseenRow.laid w) false (World.doorLaid Tryz.prog 400 os) #[.string ByteArray.empty, .slice none 0 0, .int .i64 0, .int .i64 0, .slice none 0 0, .slice none 0 0] 8 rfl (World.shaped_of_RefB (by kernel_rfl) (by kernel_rfl)) (by kernel_rfl) (by kernel_rfl) (by kernel_rfl) (door_metU os _)) ?_
 intro W base args ds gs before hval0 hW _ hz0 hL _
 have hval : ∀ (j : Nat) t v, Tryz.f13.params[j]? = some t → args[j]? = some v → Value.okWide Tryz.prog W .any base t v := hval0
 have hW' := hW
 have hlt := hW.lt
 obtain ⟨p, q, hA0, hV0, rfl, hfz, hnd⟩ := hW
 have hA : DataW.TrodAll enc Tryz.prog W 0 (fun _ => true) true Tryz.f13.params.toList args.toList ds p := hA0
 have hV : DataW.TrodVars enc Tryz.prog W (fun _ => true) [] gs q := hV0
 have hA1 := hA
 have hz : (DataW.weightsEach Tryz.prog (Tryz.f13.params.toList ++ Rows.unseenSpec.plain.varTypes Tryz.prog) (ds ++ gs)).all (· ≤ reachBytes) = true := hz0
 rw [Tryz.params13] at hA hval hz
 obtain ⟨v0, vs0, d0, ds0, q0, r0, e0, rfl, f0, h0, hA⟩ := trodAll_cons hA
 obtain ⟨v1, vs1, d1, ds1, q1, r1, e1, rfl, f1, h1, hA⟩ := trodAll_cons hA
 obtain ⟨v2, vs2, d2, ds2, q2, r2, e2, rfl, f2, h2, hA⟩ := trodAll_cons hA
 obtain ⟨v3, vs3, d3, ds3, q3, r3, e3, rfl, f3, h3, hA⟩ := trodAll_cons hA
 obtain ⟨v4, vs4, d4, ds4, q4, r4, e4, rfl, f4, h4, hA⟩ := trodAll_cons hA
 obtain ⟨v5, vs5, d5, ds5, q5, r5, e5, rfl, f5, h5, hA⟩ := trodAll_cons hA
 obtain ⟨e6, rfl, f6⟩ := trodAll_nil hA
 obtain rfl : args = #[v0, v1, v2, v3, v4, v5] := by
   rw [e6] at e5
   rw [e5] at e4
   rw [e4] at e3
   rw [e3] at e2
   rw [e2] at e1
   rw [e1] at e0
   cases args
   simp_all
 obtain ⟨rfl, rfl⟩ : gs = [] ∧ q = [] := by
   cases gs with
   | nil => exact ⟨rfl, hV⟩
   | cons g r => exact absurd hV (by intro h; cases h)
 obtain ⟨s, rfl, _, _, hs⟩ := open_string Tryz.underlying9 (hval 0 9 v0 rfl rfl) h0
 obtain ⟨a1, l1, c1, rfl⟩ := okWide_slice Tryz.underlying64 (hval 1 64 v1 rfl rfl)
 obtain ⟨n2, rfl⟩ := okWide_int Tryz.underlying3 (hval 2 3 v2 rfl rfl)
 obtain ⟨n3, rfl⟩ := okWide_int Tryz.underlying3 (hval 3 3 v3 rfl rfl)
 obtain ⟨a4, l4, c4, rfl⟩ := okWide_slice Tryz.underlying28 (hval 4 28 v4 rfl rfl)
 obtain ⟨a5, l5, c5, rfl⟩ := okWide_slice Tryz.underlying28 (hval 5 28 v5 rfl rfl)
 rw [show Rows.unseenSpec.plain.varTypes Tryz.prog = [] from rfl] at hz
 obtain ⟨ts, hN, hn⟩ := strs_of h1 (j := 1) hz rfl rfl
 obtain ⟨ks, hK, hk⟩ := nums_of h4 (j := 4) hz rfl rfl
 obtain ⟨ls, hL2, hl2⟩ := nums_of h5 (j := 5) hz rfl rfl
 obtain ⟨w2a, w2b⟩ := int_bounds h2
 obtain ⟨w3a, w3b⟩ := int_bounds h3
 obtain ⟨a, hB⟩ := begun_of_laid hL
 have e9 : Rows.unseenSpec.fn H ([d0, d1, d2, d3, d4, d5] ++ []) = { results := [.lit (.bool true)], args := [d0, d1, d2, d3, d4, d5] } := by simp [Rows.unseenSpec]
 refine (unseen_any s ts _ _ _ n2 n3 ks ls W a hB hN hK hL2 hn hk hl2 w2a w2b w3a w3b).mono fun e W' ⟨he, hO⟩ => ?_
 subst he
 refine ⟨_, rfl, _, _, _, [], p, [], hW', ?_, ?_, ?_, hO.below.frame _, fun h => by cases h⟩
 · rw [e9]; exact trodAll_mk1 (shut_bool Tryz.underlying4 true)
 · rw [e9]
   exact trodAll_later hO (DataW.TrodAll.respare Tryz.kids Tryz.full (by rw [Tryz.params13]; intro t ht; rw [Tryz.nTypes]; exact (show ∀ t ∈ [9, 64, 3, 3, 28, 28], t < 475 by decide) t ht) hA1 (fun x hx => by simpa using hlt x (List.mem_append_left _ hx))) (fun x hx => hlt x (List.mem_append_left _ hx))
 · rw [e9]; rfl
end
end Go.Proofs.YtfnkbmglodopkaaGreatDoor
