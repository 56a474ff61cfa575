/- The program's reader: its cells, and its smallest methods. The program's reader: a word that stands next. The program's digits, and a fault made. The program's faults of syntax. The program's sentinels, and its numbers behind a backslash. -/
import Derived.Test.YtdhmllobgijggaaGreatDoorProg
import Derived.Test.YtdhmllobgijggaaGreatDoorKBase
namespace Go.Proofs.YtdhmllobgijggaaGreatDoor
open Go.RowKit

/-- The letters of a pattern (place, number) in a row of cells, two each. -/
def LetRow (w : World) (g : Nat) (L : List (Int × Int)) : Prop := ∀ (j : Nat) (p : Int × Int), L[j]? = some p → w.cell? ⟨g, j * 2, none⟩ = some (.int .i64 p.1) ∧ w.cell? ⟨g, j * 2 + 1, none⟩ = some (.int .i32 p.2)

/-- A reader's four cells: its letters, which comes next, the pattern's length, how many groups are open. -/
structure RdAt (w : World) (b : Nat) (L : List (Int × Int)) (n : Nat) (len dp : Int) : Prop where
  c0 : (∃ g cap, w.cell? ⟨b, 0, none⟩ = some (.slice (some ⟨g, 0, none⟩) L.length cap) ∧ L.length ≤ cap ∧ g < b ∧ LetRow w g L) ∨ (L = [] ∧ w.cell? ⟨b, 0, none⟩ = some (.slice none 0 0))
  c1 : w.cell? ⟨b, 1, none⟩ = some (.int .i64 n)
  c2 : w.cell? ⟨b, 2, none⟩ = some (.int .i64 len)
  c3 : w.cell? ⟨b, 3, none⟩ = some (.int .i64 dp)
  f1 : w.frozen? ⟨b, 1, none⟩ = false
  f3 : w.frozen? ⟨b, 3, none⟩ = false

theorem LetRow.keep {P : Nat → Prop} {w w' : World} {g : Nat} {L : List (Int × Int)} (h : LetRow w g L) (k : Only P w w') (hn : ¬ P g) : LetRow w' g L := fun j p hj =>
  ⟨(k.cell (World.block_lt_of_cell? w _ (h j p hj).1) hn).trans (h j p hj).1, (k.cell (World.block_lt_of_cell? w _ (h j p hj).2) hn).trans (h j p hj).2⟩
theorem RdAt.lt {w : World} {b : Nat} {L : List (Int × Int)} {n : Nat} {len dp : Int} (h : RdAt w b L n len dp) : b < w.heap.size := World.block_lt_of_cell? w ⟨b, 1, none⟩ h.c1
/-- The reader's block, and its letters', stay: so does the reader. -/
theorem RdAt.keep {P : Nat → Prop} {w w' : World} {b : Nat} {L : List (Int × Int)} {n : Nat} {len dp : Int} (h : RdAt w b L n len dp) (k : Only P w w') (hb : ¬ P b) (hg : ∀ g, g < b → ¬ P g) : RdAt w' b L n len dp := by
  have hlt := h.lt
  obtain ⟨c0, c1, c2, c3, f1, f3⟩ := h
  refine ⟨?_, (k.cell (p := ⟨b, 1, none⟩) hlt hb).trans c1, (k.cell (p := ⟨b, 2, none⟩) hlt hb).trans c2, (k.cell (p := ⟨b, 3, none⟩) hlt hb).trans c3, (k.frozen (p := ⟨b, 1, none⟩) hlt hb).trans f1, (k.frozen (p := ⟨b, 3, none⟩) hlt hb).trans f3⟩
  rcases c0 with ⟨g, cap, c0, hcap, hne, hrow⟩ | ⟨rfl, c0⟩
  · refine .inl ⟨g, cap, (k.cell (p := ⟨b, 0, none⟩) hlt hb).trans c0, hcap, hne, ?_⟩
    intro j p hj
    exact hrow.keep k (hg g hne) j p hj
  · exact .inr ⟨rfl, (k.cell (p := ⟨b, 0, none⟩) hlt hb).trans c0⟩
theorem RdAt.drewN {w : World} {b : Nat} {L : List (Int × Int)} {n : Nat} {len dp : Int} (h : RdAt w b L n len dp) (q : Nat) : RdAt (w.drewN q) b L n len dp :=
  h.keep ((Only.refl (fun _ => False) w).drewN q) (fun f => f) (fun _ _ f => f)
theorem RdAt.setN {w : World} {b : Nat} {L : List (Int × Int)} {n : Nat} {len dp : Int} (h : RdAt w b L n len dp) (m : Nat) (j : Int) (hj : j = (m : Int)) : RdAt (w.setCell ⟨b, 1, none⟩ (.int .i64 j)) b L m len dp := by
  subst hj
  obtain ⟨c0, c1, c2, c3, f1, f3⟩ := h
  refine ⟨?_, World.cell?_setCell_same _ _ _ c1, (World.cell?_setCell_other _ _ _ _ (by simp)).trans c2, (World.cell?_setCell_other _ _ _ _ (by simp)).trans c3, (frozen_setCell _ _ _ _).trans f1, (frozen_setCell _ _ _ _).trans f3⟩
  rcases c0 with ⟨g, cap, c0, hcap, hne, hrow⟩ | ⟨rfl, c0⟩
  · exact .inl ⟨g, cap, (World.cell?_setCell_other _ _ _ _ (by simp)).trans c0, hcap, hne, hrow.keep ((Only.refl (Mine b) w).mine 1 _) (by unfold Mine; omega)⟩
  · exact .inr ⟨rfl, (World.cell?_setCell_other _ _ _ _ (by simp)).trans c0⟩

namespace Pro
/-- The number of the letter at a place in the row, or -1. -/
def letAt (L : List (Int × Int)) (k : Nat) : Int := match L[k]? with
  | some p => p.2
  | none => -1
/-- The byte's place of the letter that comes next, or the length. -/
def placeAt (L : List (Int × Int)) (len : Int) (k : Nat) : Int := match L[k]? with
  | some p => p.1
  | none => len
theorem letAt_in {L : List (Int × Int)} {k : Nat} (h : k < L.length) : letAt L k = L[k].2 := by unfold letAt; rw [List.getElem?_eq_getElem h]
theorem letAt_out {L : List (Int × Int)} {k : Nat} (h : L.length ≤ k) : letAt L k = -1 := by unfold letAt; rw [List.getElem?_eq_none h]
theorem placeAt_in {L : List (Int × Int)} {len : Int} {k : Nat} (h : k < L.length) : placeAt L len k = L[k].1 := by unfold placeAt; rw [List.getElem?_eq_getElem h]
theorem placeAt_out {L : List (Int × Int)} {len : Int} {k : Nat} (h : L.length ≤ k) : placeAt L len k = len := by unfold placeAt; rw [List.getElem?_eq_none h]
/-- Does a word stand next? -/
def matchF (L : List (Int × Int)) (n : Nat) (word : ByteArray) : Nat → Nat → Bool
  | 0, _ => true
  | f + 1, i => if letAt L (n + i) = byteAt word i then matchF L n word f (i + 1) else false
def matchB (L : List (Int × Int)) (n : Nat) (word : ByteArray) : Bool := matchF L n word word.size 0
end Pro

theorem pro_ret_int {k : IntKind} {a b : Int} (h : a = b) : Ending.returned (.int k a) = .returned (.int k b) := by rw [h]

set_option maxHeartbeats 400000 in
theorem ahead_any (b : Nat) (L : List (Int × Int)) (n : Nat) (len dp : Int) (k : Nat) (w : World) (h : RdAt w b L n len dp) (hL : L.length ≤ 400) (hn : n ≤ 1000) (hk : k ≤ 1000) :
    Calls Tryz.prog 91 #[.pointer (some ⟨b, 0, none⟩), .int .i64 k] w fun x w' => x = .returned (.int .i32 (Pro.letAt L (n + k))) ∧ w' = w := by
  obtain ⟨c0, c1, c2, c3, f1, f3⟩ := h
  rcases c0 with ⟨g, cap, c0, hcap, _, hrow⟩ | ⟨rfl, c0⟩
  · by_cases hlt : n + k < L.length
    · obtain ⟨r0, r1⟩ := hrow (n + k) L[n + k] (List.getElem?_eq_getElem hlt)
      have HR : Hid (Pro.letAt L (n + k) = L[n + k].2) := Pro.letAt_in hlt
      clear hrow
      go_enter Tryz.func91, Tryz.ntmps91
      go_wp2
      go_ret
      exact ⟨pro_ret_int HR.out.symm, rfl⟩
    · have HR : Hid (Pro.letAt L (n + k) = -1) := Pro.letAt_out (by omega)
      clear hrow
      go_enter Tryz.func91, Tryz.ntmps91
      go_wp2
      go_ret
      exact ⟨pro_ret_int HR.out.symm, rfl⟩
  · have HR : Hid (Pro.letAt [] (n + k) = -1) := Pro.letAt_out (by simp)
    go_enter Tryz.func91, Tryz.ntmps91
    go_wp2
    go_ret
    exact ⟨pro_ret_int HR.out.symm, rfl⟩

set_option maxHeartbeats 400000 in
theorem peek_any (b : Nat) (L : List (Int × Int)) (n : Nat) (len dp : Int) (w : World) (h : RdAt w b L n len dp) (hL : L.length ≤ 400) (hn : n ≤ 1000) :
    Calls Tryz.prog 89 #[.pointer (some ⟨b, 0, none⟩)] w fun x w' => x = .returned (.int .i32 (Pro.letAt L n)) ∧ w' = w := by
  have H := hide h
  clear h
  go_enter Tryz.func89, Tryz.ntmps89
  go_wp2_with fail
  refine (ahead_any b L n len dp 0 _ (unhide H) hL hn (by omega)).mono ?_
  rintro e w1 ⟨rfl, hw1⟩
  have hw2 := hw1.symm
  subst hw2
  clear hw1
  go_wp2_with fail
  go_ret
  exact ⟨rfl, rfl⟩

set_option maxHeartbeats 400000 in
theorem atEnd_any (b : Nat) (L : List (Int × Int)) (n : Nat) (len dp : Int) (w : World) (h : RdAt w b L n len dp) :
    Calls Tryz.prog 49 #[.pointer (some ⟨b, 0, none⟩)] w fun x w' => x = .returned (.bool ((n : Int) == (L.length : Int))) ∧ ∃ q, w' = w.drewN q := by
  obtain ⟨c0, c1, c2, c3, f1, f3⟩ := h
  rcases c0 with ⟨g, cap, c0, hcap, _, hrow⟩ | ⟨rfl, c0⟩
  · clear hrow
    go_enter Tryz.func49, Tryz.ntmps49
    go_wp2
    go_quiet (fail)
    go_wp2
    go_ret
    exact ⟨rfl, _, rfl⟩
  · go_enter Tryz.func49, Tryz.ntmps49
    go_wp2
    go_quiet (fail)
    go_wp2
    go_ret
    exact ⟨rfl, _, rfl⟩

set_option maxHeartbeats 400000 in
theorem isDigit_any (c : Int) (w : World) :
    Calls Tryz.prog 136 #[.int .i32 c] w fun x w' => x = .returned (.bool (decide (48 ≤ c) && decide (c ≤ 57))) ∧ w' = w := by
  by_cases h1 : 48 ≤ c
  · by_cases h2 : c ≤ 57
    · go_enter Tryz.func136, Tryz.ntmps136
      go_wp2
      go_ret
      exact ⟨by simp [h1, h2], rfl⟩
    · go_enter Tryz.func136, Tryz.ntmps136
      go_wp2
      go_ret
      exact ⟨by simp; omega, rfl⟩
  · go_enter Tryz.func136, Tryz.ntmps136
    go_wp2
    go_ret
    exact ⟨by simp; try omega, rfl⟩

set_option maxHeartbeats 400000 in
theorem place_any (b : Nat) (L : List (Int × Int)) (n : Nat) (len dp : Int) (w : World) (h : RdAt w b L n len dp) (hL : L.length ≤ 400) (hn : n ≤ L.length) :
    Calls Tryz.prog 72 #[.pointer (some ⟨b, 0, none⟩)] w fun x w' => x = .returned (.int .i64 (Pro.placeAt L len n)) ∧ ∃ q, w' = w.drewN q := by
  have H := hide h
  obtain ⟨c0, c1, c2, c3, f1, f3⟩ := h
  rcases c0 with ⟨g, cap, c0, hcap, _, hrow⟩ | ⟨rfl, c0⟩
  · by_cases hlt : n < L.length
    · obtain ⟨r0, r1⟩ := hrow n L[n] (List.getElem?_eq_getElem hlt)
      have HR : Hid (Pro.placeAt L len n = L[n].1) := Pro.placeAt_in hlt
      have he : ((n : Int) == (L.length : Int)) = false := by simp; omega
      clear hrow
      go_enter Tryz.func72, Tryz.ntmps72
      go_wp2_with fail
      refine (atEnd_any b L n len dp _ (unhide H)).mono ?_
      rintro e w1 ⟨rfl, q, rfl⟩
      go_wp2_with fail
      go_quiet (fail)
      go_wp2_with fail
      go_ret
      exact ⟨pro_ret_int HR.out.symm, _, by rw [World.drewN_drewN]⟩
    · have HR : Hid (Pro.placeAt L len n = len) := Pro.placeAt_out (by omega)
      have he : ((n : Int) == (L.length : Int)) = true := by simp; omega
      clear hrow
      go_enter Tryz.func72, Tryz.ntmps72
      go_wp2_with fail
      refine (atEnd_any b L n len dp _ (unhide H)).mono ?_
      rintro e w1 ⟨rfl, q, rfl⟩
      go_wp2_with fail
      go_ret
      exact ⟨pro_ret_int HR.out.symm, _, rfl⟩
  · have hn0 : n = 0 := by simpa using hn
    have HR : Hid (Pro.placeAt [] len n = len) := Pro.placeAt_out (by simp)
    have he : ((n : Int) == ((([] : List (Int × Int)).length : Nat) : Int)) = true := by simp [hn0]
    clear hn0
    go_enter Tryz.func72, Tryz.ntmps72
    go_wp2_with fail
    refine (atEnd_any b [] n len dp _ (unhide H)).mono ?_
    rintro e w1 ⟨rfl, q, rfl⟩
    rw [he]
    go_wp2_with fail
    go_ret
    exact ⟨pro_ret_int HR.out.symm, _, rfl⟩

end Go.Proofs.YtdhmllobgijggaaGreatDoor
namespace Go.Proofs.YtdhmllobgijggaaGreatDoor
open Go.RowKit

theorem pro_index (s : ByteArray) (k : Nat) (hk : k < s.size) (i : Int) (hi : i = (k : Int)) (w : World) : (Instr.index 9 (.string s) (.int .i64 i)).run Tryz.prog w = .ok (.int .u8 (byteAt s k)) w := by
  subst hi
  rw [run_index_string w 9 s .i64 (k : Int) Tryz.underlying9, byteAt_in s k hk]
  simp [hk]

theorem pro_ret_bool {a b : Bool} (h : a = b) : Ending.returned (.bool a) = .returned (.bool b) := by rw [h]

namespace Pro
/-- Where the reader stands behind 'take'. -/
def behind (L : List (Int × Int)) (n : Nat) (word : ByteArray) : Nat := if matchB L n word = true then n + word.size else n
theorem behind_yes {L : List (Int × Int)} {n : Nat} {word : ByteArray} (h : matchB L n word = true) : behind L n word = n + word.size := by unfold behind; rw [if_pos h]
theorem behind_no {L : List (Int × Int)} {n : Nat} {word : ByteArray} (h : matchB L n word = false) : behind L n word = n := by unfold behind; rw [if_neg (by simp [h])]
theorem matchF_yes {L : List (Int × Int)} {n : Nat} {word : ByteArray} {f i : Nat} (h : letAt L (n + i) = byteAt word i) : matchF L n word (f + 1) i = matchF L n word f (i + 1) := by simp only [matchF]; rw [if_pos h]
theorem matchF_no {L : List (Int × Int)} {n : Nat} {word : ByteArray} {f i : Nat} (h : ¬ letAt L (n + i) = byteAt word i) : matchF L n word (f + 1) i = false := by simp only [matchF]; rw [if_neg h]
end Pro

set_option maxHeartbeats 800000 in
theorem take_all (b : Nat) (L : List (Int × Int)) (n : Nat) (len dp : Int) (word : ByteArray) (w : World) (h : RdAt w b L n len dp) (hL : L.length ≤ 400) (hn : n ≤ 1000) (hw : word.size ≤ 10) :
    Calls Tryz.prog 71 #[.pointer (some ⟨b, 0, none⟩), .string word] w fun x w' => (Pro.matchB L n word = true ∧ x = .returned (.bool true) ∧ ∃ q, w' = (w.drewN q).setCell ⟨b, 1, none⟩ (.int .i64 ((n + word.size : Nat) : Int))) ∨ (Pro.matchB L n word = false ∧ x = .returned (.bool false) ∧ ∃ q, w' = w.drewN q) := by
  have H := hide h
  clear h
  go_enter Tryz.func71, Tryz.ntmps71
  go_wp2_with fail
  go_loopw [8] (fun c wr => ∃ (k q : Nat), c = .int .i64 k ∧ k ≤ word.size ∧ wr = w.drewN q ∧ Hid (Pro.matchB L n word = Pro.matchF L n word (word.size - k) k)) (fun c _ => word.size - (intOf c).toNat)
  case atStart => exact ⟨0, 0, rfl, by omega, rfl, rfl⟩
  case round =>
    obtain ⟨k, q, rfl, hk, rfl, HF⟩ := hrel
    by_cases hlt : k < word.size
    · have hix : ∀ wx, (Instr.index 9 (.string word) (.int .i64 (k : Int))).run Tryz.prog wx = .ok (.int .u8 (byteAt word k)) wx := fun wx => pro_index word k hlt _ rfl wx
      have hb0 := byteAt_lo word k
      have hb1 := byteAt_hi word k
      have hcv : IntKind.i32.wrap (byteAt word k) = byteAt word k := by simp [IntKind.wrap, IntKind.bits, IntKind.signed]; omega
      by_cases he : Pro.letAt L (n + k) = byteAt word k
      · have he' : (Pro.letAt L (n + k) != byteAt word k) = false := by simp [he]
        have HG : Hid (Pro.matchB L n word = Pro.matchF L n word (word.size - (k + 1)) (k + 1)) := by rw [unhide HF, show word.size - k = (word.size - (k + 1)) + 1 by omega]; exact Pro.matchF_yes he
        clear he
        go_wp2_with fail
        go_quiet ((go_at_call 91; exact (ahead_any b L n len dp k _ (by first | exact (unhide H).drewN _ | exact unhide H) hL hn (by omega)).mono (by rintro e w'' ⟨rfl, rfl⟩; exact ⟨rfl, _, rfl⟩)))
        go_wp2_with fail
        go_roundw
        case rel => exact ⟨k + 1, _, by go_num, by omega, rfl, HG⟩
        case measure => simp [intOf]; omega
      · have he' : (Pro.letAt L (n + k) != byteAt word k) = true := by simp [he]
        have HG : Hid (Pro.matchB L n word = false) := by rw [unhide HF, show word.size - k = (word.size - (k + 1)) + 1 by omega]; exact Pro.matchF_no he
        clear he
        go_wp2_with fail
        go_quiet ((go_at_call 91; exact (ahead_any b L n len dp k _ (by first | exact (unhide H).drewN _ | exact unhide H) hL hn (by omega)).mono (by rintro e w'' ⟨rfl, rfl⟩; exact ⟨rfl, _, rfl⟩)))
        go_wp2_with fail
        go_ret
        exact .inr ⟨unhide HG, rfl, by first | exact ⟨_, rfl⟩ | exact ⟨_, by rw [World.drewN_drewN]⟩⟩
    · have HG : Hid (Pro.matchB L n word = true) := by rw [unhide HF, show word.size - k = 0 by omega]; rfl
      have hc := unhide H
      obtain ⟨c0, c1, c2, c3, f1, f3⟩ := hc
      clear c0
      go_wp2_with fail
      go_ret
      exact .inl ⟨unhide HG, rfl, q, by simp⟩

theorem take_no (b : Nat) (L : List (Int × Int)) (n : Nat) (len dp : Int) (word : ByteArray) (w : World) (h : RdAt w b L n len dp) (hL : L.length ≤ 400) (hn : n ≤ 1000) (hw : word.size ≤ 10) (hm : Pro.matchB L n word = false) :
    Calls Tryz.prog 71 #[.pointer (some ⟨b, 0, none⟩), .string word] w fun x w' => x = .returned (.bool false) ∧ ∃ q, w' = w.drewN q :=
  (take_all b L n len dp word w h hL hn hw).mono (by
    rintro e w1 (⟨h1, _⟩ | ⟨_, h1⟩)
    · rw [hm] at h1; cases h1
    · exact h1)

theorem take_yes (b : Nat) (L : List (Int × Int)) (n : Nat) (len dp : Int) (word : ByteArray) (w : World) (h : RdAt w b L n len dp) (hL : L.length ≤ 400) (hn : n ≤ 1000) (hw : word.size ≤ 10) (hm : Pro.matchB L n word = true) :
    Calls Tryz.prog 71 #[.pointer (some ⟨b, 0, none⟩), .string word] w fun x w' => x = .returned (.bool true) ∧ RdAt w' b L (n + word.size) len dp ∧ Only (Mine b) w w' :=
  (take_all b L n len dp word w h hL hn hw).mono (by
    rintro e w1 (⟨_, rfl, q, rfl⟩ | ⟨h1, _⟩)
    · exact ⟨rfl, (h.drewN q).setN _ _ rfl, ((Only.refl _ _).drewN q).mine _ _⟩
    · rw [hm] at h1; cases h1)

theorem take_any (b : Nat) (L : List (Int × Int)) (n : Nat) (len dp : Int) (word : ByteArray) (w : World) (h : RdAt w b L n len dp) (hL : L.length ≤ 400) (hn : n ≤ 1000) (hw : word.size ≤ 10) :
    Calls Tryz.prog 71 #[.pointer (some ⟨b, 0, none⟩), .string word] w fun x w' => x = .returned (.bool (Pro.matchB L n word)) ∧ RdAt w' b L (Pro.behind L n word) len dp ∧ Only (Mine b) w w' := by
  cases hm : Pro.matchB L n word
  · rw [Pro.behind_no hm]
    exact (take_no b L n len dp word w h hL hn hw hm).mono (by rintro e w1 ⟨rfl, q, rfl⟩; exact ⟨rfl, h.drewN q, (Only.refl _ _).drewN q⟩)
  · rw [Pro.behind_yes hm]
    exact take_yes b L n len dp word w h hL hn hw hm

end Go.Proofs.YtdhmllobgijggaaGreatDoor
namespace Go.Proofs.YtdhmllobgijggaaGreatDoor
open Go.RowKit

namespace Pro
/-- A digit of sixteen, or -1. -/
def hexV (b : Int) : Int := if 48 ≤ b ∧ b ≤ 57 then b - 48 else if 97 ≤ b ∧ b ≤ 102 then b - 87 else if 65 ≤ b ∧ b ≤ 70 then b - 55 else -1
/-- The digit's value as the program tells it: 0 beside false. -/
def hexN (b : Int) : Int := if hexV b < 0 then 0 else hexV b
def hexB (b : Int) : Bool := decide (0 ≤ hexV b)
end Pro

theorem pro_ret_ib {k : IntKind} {a b : Int} {c d : Bool} (h : a = b) (g : c = d) : Ending.returned (.tuple #[.int k a, .bool c]) = .returned (.tuple #[.int k b, .bool d]) := by rw [h, g]

set_option maxHeartbeats 400000 in
theorem hexValue_any (c : Int) (w : World) (h1 : -1 ≤ c) (h2 : c ≤ 1114111) :
    Calls Tryz.prog 141 #[.int .i32 c] w fun x w' => x = .returned (.tuple #[.int .i32 (Pro.hexN c), .bool (Pro.hexB c)]) ∧ w' = w := by
  have hd : (decide (48 ≤ c) && decide (c ≤ 57)) = true ∨ ((decide (48 ≤ c) && decide (c ≤ 57)) = false ∧ ¬ (48 ≤ c ∧ c ≤ 57)) := by
    by_cases h : 48 ≤ c ∧ c ≤ 57
    · left; simp [h.1, h.2]
    · right; exact ⟨by simp; omega, h⟩
  rcases hd with hd | ⟨hd, hn⟩
  · have hd' : 48 ≤ c ∧ c ≤ 57 := by simpa using hd
    have HN : Hid (Pro.hexN c = c - 48 ∧ Pro.hexB c = true) := by
      have e : Pro.hexV c = c - 48 := by unfold Pro.hexV; rw [if_pos hd']
      exact ⟨by unfold Pro.hexN; rw [e, if_neg (by omega)], by unfold Pro.hexB; rw [e]; simp; omega⟩
    go_enter Tryz.func141, Tryz.ntmps141
    go_wp2_with fail
    refine (isDigit_any c _).mono ?_
    rintro e w1 ⟨rfl, hw1⟩
    have hw2 := hw1.symm
    subst hw2
    clear hw1
    rw [hd]
    go_wp2_with fail
    go_ret2
    rw [HN.out.1, HN.out.2]
    exact ⟨pro_ret_ib (by first | rfl | omega) rfl, rfl⟩
  · by_cases ha : 97 ≤ c ∧ c ≤ 102
    · have HN : Hid (Pro.hexN c = c - 97 + 10 ∧ Pro.hexB c = true) := by
        have e : Pro.hexV c = c - 87 := by unfold Pro.hexV; rw [if_neg hn, if_pos ha]
        exact ⟨by unfold Pro.hexN; rw [e, if_neg (by omega)]; omega, by unfold Pro.hexB; rw [e]; simp; omega⟩
      obtain ⟨a1, a2⟩ := ha
      clear hn
      go_enter Tryz.func141, Tryz.ntmps141
      go_wp2_with fail
      refine (isDigit_any c _).mono ?_
      rintro e w1 ⟨rfl, hw1⟩
      have hw2 := hw1.symm
      subst hw2
      clear hw1
      rw [hd]
      go_wp2_with fail
      go_ret2
      rw [HN.out.1, HN.out.2]
      exact ⟨pro_ret_ib (by first | rfl | omega) rfl, rfl⟩
    · by_cases hA : 65 ≤ c ∧ c ≤ 70
      · have HN : Hid (Pro.hexN c = c - 65 + 10 ∧ Pro.hexB c = true) := by
          have e : Pro.hexV c = c - 55 := by unfold Pro.hexV; rw [if_neg hn, if_neg ha, if_pos hA]
          exact ⟨by unfold Pro.hexN; rw [e, if_neg (by omega)]; omega, by unfold Pro.hexB; rw [e]; simp; omega⟩
        obtain ⟨a1, a2⟩ := hA
        have a3 : ¬ 97 ≤ c := by omega
        clear hn ha
        go_enter Tryz.func141, Tryz.ntmps141
        go_wp2_with fail
        refine (isDigit_any c _).mono ?_
        rintro e w1 ⟨rfl, hw1⟩
        have hw2 := hw1.symm
        subst hw2
        clear hw1
        rw [hd]
        go_wp2_with fail
        go_ret2
        rw [HN.out.1, HN.out.2]
        exact ⟨pro_ret_ib (by first | rfl | omega) rfl, rfl⟩
      · have HN : Hid (Pro.hexN c = 0 ∧ Pro.hexB c = false) := by
          have e : Pro.hexV c = -1 := by unfold Pro.hexV; rw [if_neg hn, if_neg ha, if_neg hA]
          exact ⟨by unfold Pro.hexN; rw [e]; rfl, by unfold Pro.hexB; rw [e]; rfl⟩
        have Hx := hide (And.intro hn (And.intro ha hA))
        clear hn ha hA
        go_enter Tryz.func141, Tryz.ntmps141
        go_wp2_with fail
        refine (isDigit_any c _).mono ?_
        rintro e w1 ⟨rfl, hw1⟩
        have hw2 := hw1.symm
        subst hw2
        clear hw1
        rw [hd]
        go_wp2_with fail
        all_goals first
          | (exfalso; have := unhide Hx; omega)
          | skip
        all_goals
          go_ret2
          rw [HN.out.1, HN.out.2]
          exact ⟨rfl, rfl⟩

/-- A fault in memory: its kind and its place. -/
def FaultAt (w : World) (base : Nat) (v : Value) (kind : Value) (p : Int) : Prop := ∃ g, base ≤ g ∧ v = .iface 136 (.pointer (some ⟨g, 0, none⟩)) ∧ w.cell? ⟨g, 0, none⟩ = some kind ∧ w.cell? ⟨g, 1, none⟩ = some (.int .i64 p)
theorem FaultAt.keep {P : Nat → Prop} {w w' : World} {base : Nat} {v kd : Value} {p : Int} (h : FaultAt w base v kd p) (k : Only P w w') (hn : ∀ g, base ≤ g → ¬ P g) : FaultAt w' base v kd p := by
  obtain ⟨g, hg, rfl, c0, c1⟩ := h
  exact ⟨g, hg, rfl, (k.cell (World.block_lt_of_cell? w _ c0) (hn g hg)).trans c0, (k.cell (World.block_lt_of_cell? w _ c1) (hn g hg)).trans c1⟩
theorem FaultAt.base {w : World} {base base' : Nat} {v kd : Value} {p : Int} (h : FaultAt w base v kd p) (hb : base' ≤ base) : FaultAt w base' v kd p := by
  obtain ⟨g, hg, rest⟩ := h
  exact ⟨g, by omega, rest⟩

set_option maxHeartbeats 400000 in
theorem new_any (T : TypeId) (x : Value) (p : Int) (w : World) :
    Calls Tryz.prog 46 #[.iface T x, .int .i64 p] w fun e w' => ∃ v, e = .returned v ∧ FaultAt w' w.heap.size v (.iface T x) p ∧ Only (fun _ => False) w w' := by
  go_enter Tryz.func46, Tryz.ntmps46
  go_wp2
  go_ret
  exact ⟨_, rfl, ⟨_, by first | exact Nat.le_refl _ | simp, rfl, by first | (rw [World.cell?_alloc_at _ _ _ _ rfl]; rfl), by first | (rw [World.cell?_alloc_at _ _ _ _ rfl]; rfl)⟩, (Only.refl _ _).alloc _⟩

end Go.Proofs.YtdhmllobgijggaaGreatDoor
namespace Go.Proofs.YtdhmllobgijggaaGreatDoor
open Go.RowKit

set_option maxHeartbeats 400000 in
theorem wrong_any (b : Nat) (L : List (Int × Int)) (n : Nat) (len dp : Int) (w : World) (h : RdAt w b L n len dp) (hL : L.length ≤ 400) (hn : n ≤ L.length) (T : TypeId) (kd : Value) (hS : w.cell? ⟨7, 0, none⟩ = some (.iface T kd)) :
    Calls Tryz.prog 50 #[.pointer (some ⟨b, 0, none⟩)] w fun x w' => ∃ v, x = .returned v ∧ FaultAt w' w.heap.size v (.iface T kd) (Pro.placeAt L len n) ∧ Only (fun _ => False) w w' := by
  have H := hide h
  clear h
  go_enter Tryz.func50, Tryz.ntmps50
  go_wp2_with fail
  go_region_with (first
    | (go_at_call 72; refine (place_any b L n len dp _ (by first | exact unhide H | exact (unhide H).drewN _) hL hn).mono ?_; rintro e w1 ⟨rfl, q, rfl⟩)
    | (go_at_call 46; refine (new_any _ _ _ _).mono ?_; rintro e w1 ⟨v, rfl, hv, hO⟩))
  all_goals go_wp2_with fail
  all_goals go_ret
  all_goals exact ⟨v, rfl, hv, by first | exact ((Only.refl _ _).drewN _).trans hO | exact (((Only.refl _ _).drewN _).drewN _).trans hO⟩

end Go.Proofs.YtdhmllobgijggaaGreatDoor
namespace Go.Proofs.YtdhmllobgijggaaGreatDoor
open Go.RowKit

/-- The value of the sentinel with a number: a pointer to its own memory. -/
def sentV (a : Nat → Addr) (k : Nat) : Value := .iface 248 (.pointer (some (a k)))

/-- The eight sentinels as the program's variables hold them, by the numbers of their kinds. -/
structure Sents (w : World) (a : Nat → Addr) : Prop where
  s1 : w.cell? ⟨2, 0, none⟩ = some (sentV a 1)
  s2 : w.cell? ⟨0, 0, none⟩ = some (sentV a 2)
  s3 : w.cell? ⟨7, 0, none⟩ = some (sentV a 3)
  s4 : w.cell? ⟨3, 0, none⟩ = some (sentV a 4)
  s5 : w.cell? ⟨4, 0, none⟩ = some (sentV a 5)
  s6 : w.cell? ⟨5, 0, none⟩ = some (sentV a 6)
  s7 : w.cell? ⟨6, 0, none⟩ = some (sentV a 7)
  s8 : w.cell? ⟨1, 0, none⟩ = some (sentV a 8)

theorem Sents.keep {P : Nat → Prop} {w w' : World} {a : Nat → Addr} (h : Sents w a) (k : Only P w w') (hn : ∀ j, j < 10 → ¬ P j) : Sents w' a :=
  have c : ∀ j v, w.cell? ⟨j, 0, none⟩ = some v → j < 10 → w'.cell? ⟨j, 0, none⟩ = some v := fun j v hv hj => (k.cell (p := ⟨j, 0, none⟩) (World.block_lt_of_cell? w ⟨j, 0, none⟩ hv) (hn j hj)).trans hv
  ⟨c _ _ h.s1 (by decide), c _ _ h.s2 (by decide), c _ _ h.s3 (by decide), c _ _ h.s4 (by decide), c _ _ h.s5 (by decide), c _ _ h.s6 (by decide), c _ _ h.s7 (by decide), c _ _ h.s8 (by decide)⟩

theorem wrong_at (b : Nat) (L : List (Int × Int)) (n : Nat) (len dp : Int) (a : Nat → Addr) (w : World) (h : RdAt w b L n len dp) (hS : Sents w a) (hL : L.length ≤ 400) (hn : n ≤ L.length) :
    Calls Tryz.prog 50 #[.pointer (some ⟨b, 0, none⟩)] w fun x w' => ∃ v, x = .returned v ∧ FaultAt w' w.heap.size v (sentV a 3) (Pro.placeAt L len n) ∧ Only (fun _ => False) w w' :=
  wrong_any b L n len dp w h hL hn _ _ hS.s3

/-- A fault's value is an interface value that is not nil. -/
theorem FaultAt.form {w : World} {base : Nat} {v kd : Value} {p : Int} (h : FaultAt w base v kd p) : ∃ g, v = .iface 136 (.pointer (some ⟨g, 0, none⟩)) := ⟨h.choose, h.choose_spec.2.1⟩

set_option maxHeartbeats 400000 in
theorem zero_any (b : Nat) (L : List (Int × Int)) (n : Nat) (len dp : Int) (a : Nat → Addr) (w : World) (h : RdAt w b L n len dp) (hS : Sents w a) (hL : L.length ≤ 400) (hn : n ≤ L.length) :
    Calls Tryz.prog 131 #[.pointer (some ⟨b, 0, none⟩)] w fun x w' => Only (fun _ => False) w w' ∧
      (((decide (48 ≤ Pro.letAt L n) && decide (Pro.letAt L n ≤ 57)) = false ∧ x = .returned (.tuple #[.int .i32 0, .nilIface])) ∨
       ((decide (48 ≤ Pro.letAt L n) && decide (Pro.letAt L n ≤ 57)) = true ∧ ∃ v, x = .returned (.tuple #[.int .i32 0, v]) ∧ FaultAt w' w.heap.size v (sentV a 3) (Pro.placeAt L len n))) := by
  have H := hide h
  have HS := hide hS
  clear h hS
  cases hd : (decide (48 ≤ Pro.letAt L n) && decide (Pro.letAt L n ≤ 57))
  · go_enter Tryz.func131, Tryz.ntmps131
    go_wp2_with fail
    refine (peek_any b L n len dp _ (unhide H) hL (by omega)).mono ?_
    rintro e w1 ⟨rfl, hw1⟩
    have hw2 := hw1.symm
    subst hw2
    clear hw1
    go_wp2_with fail
    refine (isDigit_any _ _).mono ?_
    rintro e w1 ⟨rfl, hw1⟩
    have hw2 := hw1.symm
    subst hw2
    clear hw1
    rw [hd]
    go_wp2_with fail
    go_ret2
    exact ⟨Only.refl _ _, .inl ⟨trivial, rfl⟩⟩
  · go_enter Tryz.func131, Tryz.ntmps131
    go_wp2_with fail
    refine (peek_any b L n len dp _ (unhide H) hL (by omega)).mono ?_
    rintro e w1 ⟨rfl, hw1⟩
    have hw2 := hw1.symm
    subst hw2
    clear hw1
    go_wp2_with fail
    refine (isDigit_any _ _).mono ?_
    rintro e w1 ⟨rfl, hw1⟩
    have hw2 := hw1.symm
    subst hw2
    clear hw1
    rw [hd]
    go_wp2_with fail
    refine (wrong_at b L n len dp a _ (unhide H) (unhide HS) hL hn).mono ?_
    rintro e w2 ⟨v, rfl, hv, hO⟩
    go_wp2_with fail
    go_ret2
    exact ⟨hO, .inr ⟨trivial, v, rfl, hv⟩⟩

end Go.Proofs.YtdhmllobgijggaaGreatDoor
