/- The program's machine that reads characters: its first byte, and its further ones. -/
import Derived.Test.YtdhmllobgijggaaGreatDoorKProAE
import Derived.WalkMore
import Derived.Laws.BitsLemmas
namespace Go.Proofs.YtdhmllobgijggaaGreatDoor
open Go.RowKit

/-- The machine's four cells: the text, which byte comes next, where the character began, its number so far. -/
structure MacAt (w : World) (b : Nat) (s : ByteArray) (nx p : Nat) (ch : Int) : Prop where
  c0 : w.cell? ⟨b, 0, none⟩ = some (.string s)
  c1 : w.cell? ⟨b, 1, none⟩ = some (.int .i64 nx)
  c2 : w.cell? ⟨b, 2, none⟩ = some (.int .i64 p)
  c3 : w.cell? ⟨b, 3, none⟩ = some (.int .i32 ch)
  f1 : w.frozen? ⟨b, 1, none⟩ = false
  f2 : w.frozen? ⟨b, 2, none⟩ = false
  f3 : w.frozen? ⟨b, 3, none⟩ = false
section
variable {w w' : World} {b : Nat} {s : ByteArray} {nx p : Nat} {ch : Int}
theorem MacAt.lt (h : MacAt w b s nx p ch) : b < w.heap.size := World.block_lt_of_cell? w ⟨b, 0, none⟩ h.c0
theorem MacAt.keep {P : Nat → Prop} (h : MacAt w b s nx p ch) (k : Only P w w') (hn : ¬ P b) : MacAt w' b s nx p ch :=
  ⟨(k.cell (p := ⟨b, 0, none⟩) h.lt hn).trans h.c0, (k.cell (p := ⟨b, 1, none⟩) h.lt hn).trans h.c1, (k.cell (p := ⟨b, 2, none⟩) h.lt hn).trans h.c2, (k.cell (p := ⟨b, 3, none⟩) h.lt hn).trans h.c3,
   (k.frozen (p := ⟨b, 1, none⟩) h.lt hn).trans h.f1, (k.frozen (p := ⟨b, 2, none⟩) h.lt hn).trans h.f2, (k.frozen (p := ⟨b, 3, none⟩) h.lt hn).trans h.f3⟩
theorem MacAt.drewN (h : MacAt w b s nx p ch) (q : Nat) : MacAt (w.drewN q) b s nx p ch := h.keep ((Only.refl (fun _ => False) w).drewN q) (fun f => f)
theorem MacAt.set1 (h : MacAt w b s nx p ch) (n : Nat) (j : Int) (hj : j = (n : Int)) : MacAt (w.setCell ⟨b, 1, none⟩ (.int .i64 j)) b s n p ch := by
  subst hj
  exact ⟨(World.cell?_setCell_other _ _ _ _ (by simp)).trans h.c0, World.cell?_setCell_same _ _ _ h.c1, (World.cell?_setCell_other _ _ _ _ (by simp)).trans h.c2, (World.cell?_setCell_other _ _ _ _ (by simp)).trans h.c3, (frozen_setCell _ _ _ _).trans h.f1, (frozen_setCell _ _ _ _).trans h.f2, (frozen_setCell _ _ _ _).trans h.f3⟩
theorem MacAt.set2 (h : MacAt w b s nx p ch) (n : Nat) (j : Int) (hj : j = (n : Int)) : MacAt (w.setCell ⟨b, 2, none⟩ (.int .i64 j)) b s nx n ch := by
  subst hj
  exact ⟨(World.cell?_setCell_other _ _ _ _ (by simp)).trans h.c0, (World.cell?_setCell_other _ _ _ _ (by simp)).trans h.c1, World.cell?_setCell_same _ _ _ h.c2, (World.cell?_setCell_other _ _ _ _ (by simp)).trans h.c3, (frozen_setCell _ _ _ _).trans h.f1, (frozen_setCell _ _ _ _).trans h.f2, (frozen_setCell _ _ _ _).trans h.f3⟩
theorem MacAt.set3 (h : MacAt w b s nx p ch) (j k : Int) (hj : k = j) : MacAt (w.setCell ⟨b, 3, none⟩ (.int .i32 k)) b s nx p j := by
  subst hj
  exact ⟨(World.cell?_setCell_other _ _ _ _ (by simp)).trans h.c0, (World.cell?_setCell_other _ _ _ _ (by simp)).trans h.c1, (World.cell?_setCell_other _ _ _ _ (by simp)).trans h.c2, World.cell?_setCell_same _ _ _ h.c3, (frozen_setCell _ _ _ _).trans h.f1, (frozen_setCell _ _ _ _).trans h.f2, (frozen_setCell _ _ _ _).trans h.f3⟩
end

namespace Pro
/-- The bits of a first byte. -/
def leadC (b : Int) : Int := if b < 128 then b else if b < 224 then b % 32 else if b < 240 then b % 16 else b % 8
/-- Does a further byte from low to high come next? -/
def tailB (s : ByteArray) (nx : Nat) (lo hi : Int) : Bool := decide (nx < s.size) && decide (lo ≤ byteAt s nx) && decide (byteAt s nx ≤ hi)
theorem tailB_yes {s : ByteArray} {nx : Nat} {lo hi : Int} (h : nx < s.size) (h1 : ¬ byteAt s nx < lo) (h2 : ¬ hi < byteAt s nx) : tailB s nx lo hi = true := by
  unfold tailB; simp; omega
theorem tailB_no {s : ByteArray} {nx : Nat} {lo hi : Int} (h : ¬ (nx < s.size ∧ lo ≤ byteAt s nx ∧ byteAt s nx ≤ hi)) : tailB s nx lo hi = false := by
  cases hb : tailB s nx lo hi with
  | false => rfl
  | true => unfold tailB at hb; simp at hb; exact absurd ⟨hb.1.1, hb.1.2, hb.2⟩ h
end Pro

set_option maxHeartbeats 2000000 in
theorem lead_any (b : Nat) (s : ByteArray) (nx p : Nat) (ch : Int) (w : World) (h : MacAt w b s nx p ch) (hs : s.size ≤ 400) (hn : nx < s.size) :
    Calls Tryz.prog 102 #[.pointer (some ⟨b, 0, none⟩)] w fun x w' => x = .returned (.int .u8 (byteAt s nx)) ∧ MacAt w' b s (nx + 1) p (Pro.leadC (byteAt s nx)) ∧ Only (Mine b) w w' := by
  have H := hide h
  obtain ⟨c0, c1, c2, c3, f1, f2, f3⟩ := h
  have hb0 := (byteAt_nonneg s nx).2 hn
  have hb1 := byteAt_hi s nx
  have hix : ∀ wx, (Instr.index 9 (.string s) (.int .i64 (nx : Int))).run Tryz.prog wx = .ok (.int .u8 (byteAt s nx)) wx := fun wx => pro_index s nx hn _ rfl wx
  have hcs : (byteAt s nx < 128 ∧ Hid (Pro.leadC (byteAt s nx) = byteAt s nx)) ∨ (128 ≤ byteAt s nx ∧ byteAt s nx < 224 ∧ Hid (Pro.leadC (byteAt s nx) = byteAt s nx % 32)) ∨ (128 ≤ byteAt s nx ∧ 224 ≤ byteAt s nx ∧ byteAt s nx < 240 ∧ Hid (Pro.leadC (byteAt s nx) = byteAt s nx % 16)) ∨ (128 ≤ byteAt s nx ∧ 224 ≤ byteAt s nx ∧ 240 ≤ byteAt s nx ∧ Hid (Pro.leadC (byteAt s nx) = byteAt s nx % 8)) := by
    unfold Pro.leadC
    by_cases h1 : byteAt s nx < 128
    · left; rw [if_pos h1]; exact ⟨h1, rfl⟩
    · right
      rw [if_neg h1]
      by_cases h2 : byteAt s nx < 224
      · left; rw [if_pos h2]; exact ⟨by omega, h2, rfl⟩
      · right
        rw [if_neg h2]
        by_cases h3 : byteAt s nx < 240
        · left; rw [if_pos h3]; exact ⟨by omega, by omega, h3, rfl⟩
        · right; rw [if_neg h3]; exact ⟨by omega, by omega, by omega, rfl⟩
  have e31 := u8_and31 (byteAt s nx) hb0 (by omega)
  have e15 := u8_and15 (byteAt s nx) hb0 (by omega)
  have e7 := u8_and7 (byteAt s nx) hb0 (by omega)
  have hcv : IntKind.i32.wrap (byteAt s nx) = byteAt s nx := wraps_i32 _ hb0 (by omega)
  rcases hcs with ⟨k1, HL⟩ | ⟨k1, k2, HL⟩ | ⟨k1, k2, k3, HL⟩ | ⟨k1, k2, k3, HL⟩
  all_goals
    go_enter Tryz.func102, Tryz.ntmps102
    go_wp2_with fail
    go_quiet (fail)
    go_wp2_with fail
    go_ret
    refine ⟨rfl, (((unhide H).drewN _).set1 (nx + 1) _ (by omega)).set3 _ _ ?_, (((Only.refl _ _).drewN _).mine _ _).mine _ _⟩
    rw [unhide HL]
    try rw [wraps_i32 _ (by omega) (by omega)]

set_option maxHeartbeats 2000000 in
theorem tail_any (b : Nat) (s : ByteArray) (nx p : Nat) (ch lo hi : Int) (w : World) (h : MacAt w b s nx p ch) (hs : s.size ≤ 400) (hn : nx ≤ s.size) (hc0 : 0 ≤ ch) (hc1 : ch < 33554432) (hl : 128 ≤ lo) (hh : hi ≤ 191) :
    Calls Tryz.prog 103 #[.pointer (some ⟨b, 0, none⟩), .int .u8 lo, .int .u8 hi] w fun x w' => Only (Mine b) w w' ∧ ((Pro.tailB s nx lo hi = true ∧ x = .returned (.bool true) ∧ MacAt w' b s (nx + 1) p (ch * 64 + byteAt s nx - 128)) ∨ (Pro.tailB s nx lo hi = false ∧ x = .returned (.bool false) ∧ MacAt w' b s nx p ch)) := by
  have H := hide h
  obtain ⟨c0, c1, c2, c3, f1, f2, f3⟩ := h
  by_cases hlt : nx < s.size
  · have he : ((nx : Int) == (s.size : Int)) = false := by simp; omega
    have hb0 := (byteAt_nonneg s nx).2 hlt
    have hb1 := byteAt_hi s nx
    have hix : ∀ wx, (Instr.index 9 (.string s) (.int .i64 (nx : Int))).run Tryz.prog wx = .ok (.int .u8 (byteAt s nx)) wx := fun wx => pro_index s nx hlt _ rfl wx
    by_cases h1 : byteAt s nx < lo
    · have HB : Hid (Pro.tailB s nx lo hi = false) := Pro.tailB_no (by omega)
      go_enter Tryz.func103, Tryz.ntmps103
      go_wp2_with fail
      go_quiet (fail)
      go_wp2_with fail
      go_quiet (fail)
      go_wp2_with fail
      go_ret
      exact ⟨by first | exact (Only.refl _ _).drewN _ | exact ((Only.refl _ _).drewN _).drewN _, .inr ⟨unhide HB, rfl, by first | exact (unhide H).drewN _ | exact ((unhide H).drewN _).drewN _⟩⟩
    · by_cases h2 : hi < byteAt s nx
      · have HB : Hid (Pro.tailB s nx lo hi = false) := Pro.tailB_no (by omega)
        go_enter Tryz.func103, Tryz.ntmps103
        go_wp2_with fail
        go_quiet (fail)
        go_wp2_with fail
        go_quiet (fail)
        go_wp2_with fail
        go_ret
        exact ⟨by first | exact (Only.refl _ _).drewN _ | exact ((Only.refl _ _).drewN _).drewN _, .inr ⟨unhide HB, rfl, by first | exact (unhide H).drewN _ | exact ((unhide H).drewN _).drewN _⟩⟩
      · have HB : Hid (Pro.tailB s nx lo hi = true) := Pro.tailB_yes hlt h1 h2
        have e63 := u8_and63 (byteAt s nx) hb0 (by omega)
        have hor : bits BinOp.or IntKind.i32 (ch * 64) (byteAt s nx % 64) = ch * 64 + byteAt s nx - 128 := by
          rw [i32_or6 (ch * 64) (byteAt s nx % 64) (by omega) (by omega) (by omega) (by omega) (by omega)]; omega
        go_enter Tryz.func103, Tryz.ntmps103
        go_wp2_with fail
        go_quiet (fail)
        go_wp2_with fail
        go_quiet (fail)
        go_wp2_with fail
        go_ret
        exact ⟨(((Only.refl _ _).drewN _).mine _ _).mine _ _, .inl ⟨unhide HB, rfl, (((unhide H).drewN _).set1 (nx + 1) _ (by omega)).set3 _ _ rfl⟩⟩
  · have he : ((nx : Int) == (s.size : Int)) = true := by simp; omega
    have HB : Hid (Pro.tailB s nx lo hi = false) := Pro.tailB_no (by omega)
    go_enter Tryz.func103, Tryz.ntmps103
    go_wp2_with fail
    go_quiet (fail)
    go_wp2_with fail
    go_ret
    exact ⟨(Only.refl _ _).drewN _, .inr ⟨unhide HB, rfl, (unhide H).drewN _⟩⟩
end Go.Proofs.YtdhmllobgijggaaGreatDoor
