/- The statement's own functions: a script of one step. -/
import Derived.Test.YtdhmllobgijggaaGreatDoorKLawAB
import Derived.Deep.RegionHeld3
namespace Go.Proofs.YtdhmllobgijggaaGreatDoor
open Go.RowKit

theorem OneIn.base {w : World} {base base' q : Nat} {v : Int} (h : OneIn w base q v) (hb : base' ≤ base) : OneIn w base' q v := by
  obtain ⟨gx, gy, T, y, F, h1, h2, h3, h4, h5, h6, h7, h8⟩ := h.at'
  exact ⟨gx, gy, T, y, F, h1, h2, h3, SizeAt.mono (fun g _ hg => Nat.le_trans hb hg) F _ _ h4, h5, by omega, by omega, by omega⟩

set_option maxHeartbeats 2000000 in
set_option maxRecDepth 1000000 in
theorem step_no (b : Nat) (s : ByteArray) (k : Nat) (p : Int) (w : World) (a : Nat → Addr) (hS : Start w a) (k1 : 1 ≤ k) (k2 : k ≤ 8) (hr : RefBad s k p) (hp : ∀ (w : World) (a : Nat → Addr), Start w a → PatBad s a k p w) :
    Calls Tryz.prog 5 #[.pointer (some ⟨b, 0, none⟩), .agg #[.int .i64 1, .int .i64 0, .int .i64 0, .int .i64 0, .string s, .slice none 0 0, .slice none 0 0, .slice none 0 0]] w fun e w' => e = .returned (.bool true) ∧ Only (fun _ => False) w w' := by
  have HC : Hid (∀ w1, Only (fun _ => False) w w1 → Calls Tryz.prog 9 #[.pointer (some ⟨b, 0, none⟩), .agg #[.int .i64 1, .int .i64 0, .int .i64 0, .int .i64 0, .string s, .slice none 0 0, .slice none 0 0, .slice none 0 0]] w1 fun e w' => e = .returned (.bool true) ∧ Only (fun _ => False) w1 w') := fun w1 h1 => compiles_no b s k p w1 a (hS.keep h1) k1 k2 hr hp
  clear hS hp hr
  go_enter Tryz.func5, Tryz.ntmps5
  go_wp2_with (go_at_call 9; refine (unhide HC _ ((Only.refl _ _).alloc _)).mono ?_; rintro e w1 ⟨rfl, hO1⟩)
  go_ret
  exact ⟨rfl, ((Only.refl _ _).alloc _).trans hO1⟩

set_option maxHeartbeats 2000000 in
set_option maxRecDepth 1000000 in
theorem step_yes (b : Nat) (s : ByteArray) (v : Int) (w : World) (a : Nat → Addr) (hS : Start w a) (hr : RefGood s v) (hp : ∀ (w : World) (a : Nat → Addr), Start w a → PatGood s v w) (hW : LawW w b (.slice none 0 0)) :
    Calls Tryz.prog 5 #[.pointer (some ⟨b, 0, none⟩), .agg #[.int .i64 1, .int .i64 0, .int .i64 0, .int .i64 0, .string s, .slice none 0 0, .slice none 0 0, .slice none 0 0]] w fun e w' => ∃ q cap, e = .returned (.bool true) ∧ LawW w' b (.slice (some ⟨q, 0, none⟩) 1 cap) ∧ OneIn w' w.heap.size q v ∧ Only (Mine b) w w' := by
  have HC : Hid (∀ w1, Only (fun _ => False) w w1 → Calls Tryz.prog 9 #[.pointer (some ⟨b, 0, none⟩), .agg #[.int .i64 1, .int .i64 0, .int .i64 0, .int .i64 0, .string s, .slice none 0 0, .slice none 0 0, .slice none 0 0]] w1 fun e w' => ∃ q cap, e = .returned (.bool true) ∧ LawW w' b (.slice (some ⟨q, 0, none⟩) 1 cap) ∧ OneIn w' w1.heap.size q v ∧ Only (Mine b) w1 w') := fun w1 h1 => compiles_yes b s v w1 a (hS.keep h1) hr hp (hW.keep h1 (fun f => f))
  clear hp hr hW hS
  go_enter Tryz.func5, Tryz.ntmps5
  go_wp2_with (go_at_call 9; refine (unhide HC _ ((Only.refl _ _).alloc _)).mono ?_; rintro e w1 ⟨q, cap, rfl, h1, h3, hO1⟩; have H1 := hide h1; have H3 := hide h3; clear h1 h3)
  go_ret
  exact ⟨q, cap, rfl, unhide H1, (unhide H3).base (by simp), ((Only.refl _ _).alloc _).trans hO1⟩

/-- The script's one step, in memory. -/
structure OpAt (w : World) (n : Nat) (s : ByteArray) : Prop where
  c0 : w.cell? ⟨n, 0, none⟩ = some (.int .i64 1)
  c1 : w.cell? ⟨n, 1, none⟩ = some (.int .i64 0)
  c2 : w.cell? ⟨n, 2, none⟩ = some (.int .i64 0)
  c3 : w.cell? ⟨n, 3, none⟩ = some (.int .i64 0)
  c4 : w.cell? ⟨n, 4, none⟩ = some (.string s)
  c5 : w.cell? ⟨n, 5, none⟩ = some (.slice none 0 0)
  c6 : w.cell? ⟨n, 6, none⟩ = some (.slice none 0 0)
  c7 : w.cell? ⟨n, 7, none⟩ = some (.slice none 0 0)
theorem OpAt.keep {P : Nat → Prop} {w w' : World} {n : Nat} {s : ByteArray} (h : OpAt w n s) (k : Only P w w') (hn : ¬ P n) : OpAt w' n s :=
  ⟨cell_kept k _ _ h.c0 hn, cell_kept k _ _ h.c1 hn, cell_kept k _ _ h.c2 hn, cell_kept k _ _ h.c3 hn, cell_kept k _ _ h.c4 hn, cell_kept k _ _ h.c5 hn, cell_kept k _ _ h.c6 hn, cell_kept k _ _ h.c7 hn⟩

/-- The statement's store as it begins. -/
def store0 : Obj := .cells #[.slice none 0 0, .slice none 0 0, .slice none 0 0, .slice none 0 0, .slice none 0 0, .slice none 0 0, .slice none 0 0, .slice none 0 0, .slice none 0 0, .slice none 0 0, .int .i64 0] 39
theorem LawW.new (w : World) : LawW (w.alloc store0) w.heap.size (.slice none 0 0) :=
  ⟨new_cell w _ rfl _ _ 0 _ rfl, new_cell w _ rfl _ _ 1 _ rfl, new_cell w _ rfl _ _ 2 _ rfl, new_cell w _ rfl _ _ 4 _ rfl, new_cell w _ rfl _ _ 6 _ rfl, new_cell w _ rfl _ _ 7 _ rfl, new_cell w _ rfl _ _ 8 _ rfl, new_cell w _ rfl _ _ 9 _ rfl, new_frozen w _ rfl _ _ 0⟩

set_option maxHeartbeats 4000000 in
set_option maxRecDepth 1000000 in
theorem play_no (n : Nat) (s : ByteArray) (k : Nat) (p : Int) (w : World) (a : Nat → Addr) (hS : Start w a) (k1 : 1 ≤ k) (k2 : k ≤ 8) (hr : RefBad s k p) (hp : ∀ (w : World) (a : Nat → Addr), Start w a → PatBad s a k p w) (hN : OpAt w n s) :
    Calls Tryz.prog 4 #[.slice (some ⟨n, 0, none⟩) 1 1, .int .i64 2, .int .i64 2] w fun e w' => e = .returned (.bool true) ∧ Only (fun _ => False) w w' := by
  have hO0 : Only (fun _ => False) w (w.alloc store0) := (Only.refl _ _).alloc _
  have HC : Hid (∀ w1, Only (fun _ => False) (w.alloc store0) w1 → Calls Tryz.prog 5 #[.pointer (some ⟨w.heap.size, 0, none⟩), .agg #[.int .i64 1, .int .i64 0, .int .i64 0, .int .i64 0, .string s, .slice none 0 0, .slice none 0 0, .slice none 0 0]] w1 fun e w' => e = .returned (.bool true) ∧ Only (fun _ => False) w1 w') := fun w1 h1 => step_no w.heap.size s k p w1 a (hS.keep (hO0.trans h1)) k1 k2 hr hp
  have HW := hide (LawW.new w)
  have hN1 := hN.keep hO0 (fun f => f)
  obtain ⟨o0, o1, o2, o3, o4, o5, o6, o7⟩ := hN1
  clear hS hp hr hN
  have HO := hide hO0
  clear hO0
  unfold store0 at *
  go_enter Tryz.func4, Tryz.ntmps4
  go_wp2_with fail
  refine wp_loop_rounds 2 ?_
  rw [rounds_succ]
  go_wp2_with (first | (go_at_call 5; refine (unhide HC _ ((Only.refl _ _).alloc _)).mono ?_; rintro e w1 ⟨rfl, hO1⟩; have W1 := hide ((unhide HW).keep (((Only.refl (fun _ => False) _).alloc _).trans hO1) (fun f => f))) | (go_at_call 6; refine (kept_any w.heap.size _ _ (unhide W1)).mono ?_; rintro e wq ⟨rfl, hwq⟩; have hwr := hwq.symm; subst hwr; clear hwq))
  rw [rounds_succ]
  go_wp2_with fail
  have e0 := (unhide W1).c0
  have e1 := (unhide W1).c1
  refine wp_loop_rounds 1 ?_
  rw [rounds_succ]
  go_wp2_with fail
  refine wp_loop_rounds 1 ?_
  rw [rounds_succ]
  go_wp2_with (go_at_call 6; refine (kept_any w.heap.size _ _ (unhide W1)).mono ?_; rintro e wq ⟨rfl, hwq⟩; have hwr := hwq.symm; subst hwr; clear hwq)
  go_ret
  exact ⟨rfl, ((unhide HO).alloc _).trans hO1⟩

set_option maxHeartbeats 4000000 in
set_option maxRecDepth 1000000 in
theorem play_yes (n : Nat) (s : ByteArray) (v : Int) (w : World) (a : Nat → Addr) (hS : Start w a) (v0 : 0 ≤ v) (v1 : v < 300) (hr : RefGood s v) (hp : ∀ (w : World) (a : Nat → Addr), Start w a → PatGood s v w) (hN : OpAt w n s) :
    Calls Tryz.prog 4 #[.slice (some ⟨n, 0, none⟩) 1 1, .int .i64 2, .int .i64 2] w fun e w' => e = .returned (.bool true) ∧ Only (fun _ => False) w w' := by
  have hO0 : Only (fun _ => False) w (w.alloc store0) := (Only.refl _ _).alloc _
  have HC : Hid (∀ w1, Only (fun _ => False) (w.alloc store0) w1 → Calls Tryz.prog 5 #[.pointer (some ⟨w.heap.size, 0, none⟩), .agg #[.int .i64 1, .int .i64 0, .int .i64 0, .int .i64 0, .string s, .slice none 0 0, .slice none 0 0, .slice none 0 0]] w1 fun e w' => ∃ q cap, e = .returned (.bool true) ∧ LawW w' w.heap.size (.slice (some ⟨q, 0, none⟩) 1 cap) ∧ OneIn w' w1.heap.size q v ∧ Only (Mine w.heap.size) w1 w') := fun w1 h1 => step_yes w.heap.size s v w1 a (hS.keep (hO0.trans h1)) hr hp ((LawW.new w).keep h1 (fun f => f))
  have hN1 := hN.keep hO0 (fun f => f)
  obtain ⟨o0, o1, o2, o3, o4, o5, o6, o7⟩ := hN1
  clear hS hp hr hN
  have HO := hide hO0
  clear hO0
  have hm : min (v + 1) 301 = v + 1 := by omega
  unfold store0 at *
  go_enter Tryz.func4, Tryz.ntmps4
  go_wp2_with fail
  refine wp_loop_rounds 2 ?_
  rw [rounds_succ]
  go_wp2_with (first | (go_at_call 5; refine (unhide HC _ ((Only.refl _ _).alloc _)).mono ?_; rintro e w1 ⟨q, cap, rfl, hW1, hI, hO1⟩; have W1 := hide hW1; have HI := hide hI; clear hW1 hI) | (go_at_call 6; refine (kept_any w.heap.size _ _ (unhide W1)).mono ?_; rintro e wq ⟨rfl, hwq⟩; have hwr := hwq.symm; subst hwr; clear hwq))
  rw [rounds_succ]
  go_wp2_with fail
  have e0 := (unhide W1).c0
  have e1 := (unhide W1).c1
  obtain ⟨gx, gy, T, y, F, i1, i2, i3, i4, i5, i6, i7, i8⟩ := (unhide HI).at'
  have I3 := hide i3
  have I4 := hide i4
  clear i3 i4
  have HZ : Hid (∀ W, Only (fun _ => False) w1 W → Calls Tryz.prog 7 #[.pointer (some ⟨gx, 0, none⟩)] W fun x w' => x = .returned (.int .i64 (v + 1)) ∧ Only (fun _ => False) w1 w' ∧ w'.cell? ⟨w.heap.size, 0, none⟩ = some (.slice (some ⟨q, 0, none⟩) 1 cap) ∧ w'.cell? ⟨q, 0, none⟩ = some (.pointer (some ⟨gx, 0, none⟩)) ∧ w'.cell? ⟨q, 1, none⟩ = some (.pointer (some ⟨gy, 0, none⟩)) ∧ w'.cell? ⟨gy, 1, none⟩ = some (.int .i64 (v + 1))) := fun W hW =>
    (size_any gx F T y W _ v (cell_kept hW _ _ (unhide I3) (fun f => f)) (SizeAt.keep hW (fun _ _ f => f) F _ _ (unhide I4))).mono (by
      rintro e w' ⟨rfl, hO⟩
      rw [hm]
      have hO' := hW.trans hO
      exact ⟨rfl, hO', cell_kept hO' _ _ e0 (fun f => f), cell_kept hO' _ _ i1 (fun f => f), cell_kept hO' _ _ i2 (fun f => f), cell_kept hO' _ _ i5 (fun f => f)⟩)
  refine wp_loop_rounds 2 ?_
  rw [rounds_succ]
  go_wp2_with fail
  go_region_held3 (fun w' => w'.cell? ⟨w.heap.size, 0, none⟩ = some (.slice (some ⟨q, 0, none⟩) 1 cap) ∧ w'.cell? ⟨q, 0, none⟩ = some (.pointer (some ⟨gx, 0, none⟩)) ∧ w'.cell? ⟨q, 1, none⟩ = some (.pointer (some ⟨gy, 0, none⟩)) ∧ w'.cell? ⟨gy, 1, none⟩ = some (.int .i64 (v + 1))) (go_keep)
    (first | (go_at_call 7; refine (unhide HZ _ ((Only.refl _ _).drewN _)).mono ?_; rintro e w2 ⟨rfl, hO2, z0, z1, z2, z3⟩))
  have W2 := hide ((unhide W1).keep hO2 (fun f => f))
  have e2 := (unhide W2).c1
  go_wp2_with fail
  rw [rounds_succ]
  go_wp2_with fail
  refine wp_loop_rounds 1 ?_
  rw [rounds_succ]
  go_wp2_with (go_at_call 6; refine (kept_any w.heap.size _ _ (unhide W2)).mono ?_; rintro e wq ⟨rfl, hwq⟩; have hwr := hwq.symm; subst hwr; clear hwq)
  go_ret
  exact ⟨rfl, (((unhide HO).alloc _).later hO1 (fun i hi => by unfold Mine at hi; omega)).trans hO2⟩
end Go.Proofs.YtdhmllobgijggaaGreatDoor
