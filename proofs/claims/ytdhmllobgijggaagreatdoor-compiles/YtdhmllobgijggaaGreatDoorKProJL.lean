/- The program's words of signs: the character of a decoding fault The program's escapes. The program's numbers behind a backslash, whichever comes. A reader that is followed from the world where a method began. The program's escapes: a character, or many. The program's classes: a member, and whether a range follows. -/
import Derived.Test.YtdhmllobgijggaaGreatDoorKProI
import Derived.Lib.Bytealg
import Derived.Laws.Runes
import Derived.Laws.RangeString
import Derived.Laws.RangeAny
import Derived.WalkMore
import Derived.LoopN
namespace Go.Proofs.YtdhmllobgijggaaGreatDoor
open Go.RowKit

set_option maxHeartbeats 2000000 in
set_option maxRecDepth 1000000 in
theorem indexRune_error (s : ByteArray) (w : World) (hs : ∀ b ∈ s.data.toList, b.toNat < 128) (_hz : s.size ≤ 20) :
    Calls Tryz.prog 129 #[.string s, .int .i32 65533] w fun e w' => e = .returned (.int .i64 (-1)) ∧ Only (fun _ => False) w w' := by
  go_enter Tryz.func129, Tryz.ntmps129
  go_wp2
  go_loopw [4] (fun _ wr => ∃ pos : Nat, wr = w.iter s pos) (fun _ wr => s.size - wr.iterPos w.heap.size)
  case atStart => exact ⟨0, rfl⟩
  case round =>
    obtain ⟨pos, rfl⟩ := hrel
    by_cases hp : pos < s.size
    · have ha : (s[pos]'hp).toNat < 128 := hs _ (by exact Array.getElem_mem_toList (xs := s.data) hp)
      have hnx : ∀ ty, (Instr.next (.pointer (some ⟨w.heap.size, 0, none⟩)) true ty).run Tryz.prog (w.iter s pos) = _ := fun ty => run_next_ascii w s pos ty hp ha
      have hne : (((s[pos]'hp).toNat : Int) == 65533) = false := by simp; omega
      have Hs := hide hs
      clear hs
      go_wp2
      go_roundw
      case rel => exact ⟨pos + 1, rfl⟩
      case measure => simp; omega
    · have hnx : ∀ ty, (Instr.next (.pointer (some ⟨w.heap.size, 0, none⟩)) true ty).run Tryz.prog (w.iter s pos) = _ := fun ty => run_next_end w s pos ty hp
      have Hs := hide hs
      clear hs
      go_wp2
      go_ret
      exact ⟨rfl, (Only.refl _ _).alloc _⟩

/-- Is a number one of a word's bytes? -/
def Pro.inB (s : ByteArray) (r : Int) : Bool := s.data.toList.any fun b => decide ((b.toNat : Int) = r)

theorem inB_low (s : ByteArray) (r : Int) (h0 : 0 ≤ r) (h1 : r < 128) : decide (0 ≤ firstIdx s r.toNat.toUInt8) = Pro.inB s r := by
  rw [firstIdx_nonneg]
  unfold Pro.inB
  congr 1
  funext b
  have hb := b.toNat_lt
  by_cases h : (b.toNat : Int) = r
  · have e : b = r.toNat.toUInt8 := by
      apply UInt8.toNat_inj.1
      rw [← h]; simp
    rw [beq_iff_eq.2 e, decide_eq_true h]
  · rw [decide_eq_false h, beq_eq_false_iff_ne]
    intro e
    apply h
    rw [e]
    simp
    omega
theorem inB_high (s : ByteArray) (r : Int) (hs : ∀ b ∈ s.data.toList, b.toNat < 128) (h : r < 0 ∨ 128 ≤ r) : Pro.inB s r = false := by
  unfold Pro.inB
  rw [List.any_eq_false]
  intro b hb
  have := hs b hb
  simp; omega

theorem indexRune_any (s : ByteArray) (r : Int) (w : World) (h1 : r ≤ 1114111) (hs : ∀ b ∈ s.data.toList, b.toNat < 128) (hz : s.size ≤ 20) :
    Calls Tryz.prog 129 #[.string s, .int .i32 r] w fun e w' => (∃ k, e = .returned (.int .i64 k) ∧ decide (0 ≤ k) = Pro.inB s r) ∧ Only (fun _ => False) w w' := by
  by_cases h0 : r < 0
  · exact (indexRune_none s r w h0).mono (by rintro e w1 ⟨rfl, rfl⟩; exact ⟨⟨_, rfl, (inB_high s r hs (.inl h0)).symm⟩, Only.refl _ _⟩)
  · by_cases h2 : r < 128
    · exact (indexRune_ascii s r w (by omega) h2).mono (by rintro e w1 ⟨rfl, rfl⟩; exact ⟨⟨_, rfl, inB_low s r (by omega) h2⟩, Only.refl _ _⟩)
    · by_cases h3 : r = 65533
      · subst h3
        exact (indexRune_error s w hs hz).mono (by rintro e w1 ⟨rfl, hO⟩; exact ⟨⟨_, rfl, (inB_high s _ hs (.inr (by omega))).symm⟩, hO⟩)
      · exact (indexRune_high s r w (by omega) h1 h3 hs hz).mono (by rintro e w1 ⟨rfl, hO⟩; exact ⟨⟨_, rfl, (inB_high s _ hs (.inr (by omega))).symm⟩, hO⟩)

set_option maxHeartbeats 2000000 in
theorem contains_any (s : ByteArray) (r : Int) (w : World) (h1 : r ≤ 1114111) (hs : ∀ b ∈ s.data.toList, b.toNat < 128) (hz : s.size ≤ 20) :
    Calls Tryz.prog 123 #[.string s, .int .i32 r] w fun e w' => e = .returned (.bool (Pro.inB s r)) ∧ Only (fun _ => False) w w' := by
  have HS := hide hs
  clear hs
  go_enter Tryz.func123, Tryz.ntmps123
  go_wp2_with (go_at_call 129; refine (indexRune_any s r _ h1 (unhide HS) hz).mono ?_; rintro e w1 ⟨⟨k, rfl, hk⟩, hO⟩)
  go_ret
  exact ⟨by rw [← hk]; rfl, hO⟩
end Go.Proofs.YtdhmllobgijggaaGreatDoor
namespace Go.Proofs.YtdhmllobgijggaaGreatDoor
open Go.RowKit

theorem inB_sign (r : Int) : Pro.inB { data := #[94, 36, 92, 46, 42, 43, 63, 40, 41, 91, 93, 123, 125, 124, 47] } r = Pro.sign r := rfl
theorem inB_set (r : Int) : Pro.inB { data := #[100, 68, 119, 87, 115, 83] } r = Pro.setB r := rfl
theorem inB_back (r : Int) : Pro.inB { data := #[49, 50, 51, 52, 53, 54, 55, 56, 57, 107, 112, 80] } r = Pro.backB r := rfl

set_option maxHeartbeats 2000000 in
theorem shortNumber_any (c : Int) (w : World) (h1 : c ≤ 1114111) :
    Calls Tryz.prog 130 #[.int .i32 c] w fun x w' => x = .returned (.tuple #[.int .i32 (Pro.shortV c), .bool (Pro.shortB c)]) ∧ Only (fun _ => False) w w' := by
  by_cases hc : 0 ≤ Pro.ctlV c
  · have HV : Hid (Pro.shortV c = Pro.ctlV c ∧ Pro.shortB c = true) := ⟨by unfold Pro.shortV; rw [if_pos hc], by unfold Pro.shortB; simp [hc]⟩
    have hcs : c = 116 ∨ c = 110 ∨ c = 118 ∨ c = 102 ∨ c = 114 := by unfold Pro.ctlV at hc; (repeat' split at hc) <;> omega
    clear hc h1
    rcases hcs with rfl | rfl | rfl | rfl | rfl
    all_goals
      go_enter Tryz.func130, Tryz.ntmps130
      go_wp2_with fail
      go_ret2
      rw [HV.out.1, HV.out.2]
      exact ⟨rfl, Only.refl _ _⟩
  · have HV : Hid (Pro.shortV c = c ∧ Pro.shortB c = Pro.sign c) := ⟨by unfold Pro.shortV; rw [if_neg hc], by unfold Pro.shortB; simp [hc]⟩
    have hcs : (c == 116) = false ∧ (c == 110) = false ∧ (c == 118) = false ∧ (c == 102) = false ∧ (c == 114) = false := by
      unfold Pro.ctlV at hc
      (repeat' split at hc) <;> simp <;> omega
    obtain ⟨k1, k2, k3, k4, k5⟩ := hcs
    clear hc
    go_enter Tryz.func130, Tryz.ntmps130
    go_wp2_with (go_at_call 123; refine (contains_any _ _ _ h1 (by decide) (by decide)).mono ?_; rintro e w1 ⟨rfl, hO⟩)
    go_ret2
    rw [HV.out.1, HV.out.2, ← inB_sign]
    exact ⟨rfl, hO⟩
end Go.Proofs.YtdhmllobgijggaaGreatDoor
namespace Go.Proofs.YtdhmllobgijggaaGreatDoor
open Go.RowKit

theorem Tells.trans {b : Nat} {L : List (Int × Int)} {len dp : Int} {a : Nat → Addr} {w w1 w' : World} {o : Pro.Out} {yes no : Value} {x : Ending} (hO : Only (Mine b) w w1) (h : Tells b L len dp a w1 o yes no x w') : Tells b L len dp a w o yes no x w' := by
  obtain ⟨h1, h2, h3⟩ := h
  refine ⟨hO.trans h1, h2, ?_⟩
  rcases h3 with h3 | ⟨hk, v, hx, hv⟩
  · exact .inl h3
  · exact .inr ⟨hk, v, hx, hv.base hO.size⟩
theorem Tells.yes {b : Nat} {L : List (Int × Int)} {len dp : Int} {a : Nat → Addr} {w w' : World} {o : Pro.Out} {yes no : Value} (hk : o.k = 0) (hO : Only (Mine b) w w') (hR : RdAt w' b L o.n len dp) : Tells b L len dp a w o yes no (.returned (.tuple #[yes, .nilIface])) w' := ⟨hO, hR, .inl ⟨hk, rfl⟩⟩
theorem Tells.no {b : Nat} {L : List (Int × Int)} {len dp : Int} {a : Nat → Addr} {w w' : World} {o : Pro.Out} {yes no v : Value} (hk : o.k ≠ 0) (hO : Only (Mine b) w w') (hR : RdAt w' b L o.n len dp) (hv : FaultAt w' w.heap.size v (sentV a o.k) o.p) : Tells b L len dp a w o yes no (.returned (.tuple #[no, v])) w' := ⟨hO, hR, .inr ⟨hk, v, rfl, hv⟩⟩

theorem zero_tells (b : Nat) (L : List (Int × Int)) (n : Nat) (len dp : Int) (a : Nat → Addr) (w : World) (h : RdAt w b L n len dp) (hS : Sents w a) (_hb : 10 ≤ b) (hL : L.length ≤ 400) (hn : n ≤ L.length) (_hF : Pro.Fit L) :
    Calls Tryz.prog 131 #[.pointer (some ⟨b, 0, none⟩)] w (Tells b L len dp a w (Pro.zeroO L len n) (.int .i32 (Pro.zeroO L len n).v) (.int .i32 0)) := by
  refine (zero_any b L n len dp a w h hS hL hn).mono ?_
  rintro e w1 ⟨hO, ⟨hd, rfl⟩ | ⟨hd, v, rfl, hv⟩⟩
  · have e1 : Pro.zeroO L len n = Pro.good 0 n := by unfold Pro.zeroO Pro.dig; rw [hd]; rfl
    exact told_good e1 (by rw [e1]; rfl) hO.none (h.keep hO (fun f => f) (fun _ _ f => f))
  · have e1 : Pro.zeroO L len n = Pro.bad 3 (Pro.placeAt L len n) n := by unfold Pro.zeroO Pro.dig; rw [hd]; rfl
    exact told_bad e1 (by decide) hO.none (h.keep hO (fun f => f) (fun _ _ f => f)) hv

namespace Pro
theorem sign_none {c : Int} (h : c = 48 ∨ c = 99 ∨ c = 120 ∨ c = 117) : shortB c = false := by rcases h with rfl | rfl | rfl | rfl <;> decide
theorem zeroO_n (L : List (Int × Int)) (len : Int) (n : Nat) : (zeroO L len n).n = n := by unfold zeroO; split <;> rfl
end Pro

set_option maxHeartbeats 2000000 in
theorem escapedNumber_any (b : Nat) (L : List (Int × Int)) (n : Nat) (len dp : Int) (a : Nat → Addr) (w : World) (h : RdAt w b L n len dp) (hS : Sents w a) (hb : 10 ≤ b) (hL : L.length ≤ 400) (hn : n ≤ L.length) (hF : Pro.Fit L) :
    Calls Tryz.prog 124 #[.pointer (some ⟨b, 0, none⟩)] w (Tells b L len dp a w (Pro.numO L len n) (.int .i32 (Pro.numO L len n).v) (.int .i32 0)) := by
  have H := hide h
  have HS := hide hS
  clear h hS
  have hfit := hF n
  cases hsh : Pro.shortB (Pro.letAt L n)
  · by_cases q0 : Pro.letAt L n = 48
    · have HO : Hid (Pro.numO L len n = Pro.zeroO L len (n + 1)) := by unfold Pro.numO; rw [hsh]; simp only [Bool.false_eq_true, if_false]; rw [if_pos q0]; rfl
      have hlt : n < L.length := Pro.letAt_in' (by omega)
      have m0 : Pro.matchB L n { data := #[48] } = true := by rw [Pro.matchB_one L n 48 48 rfl]; simp; omega
      clear q0
      by_cases hk : (Pro.zeroO L len (n + 1)).k = 0
      · go_enter Tryz.func124, Tryz.ntmps124
        go_wp2_with (first | (go_at_call 89; refine (peek_any b L (n) len dp _ (by first | exact unhide H | exact (unhide H).drewN _ | exact ((unhide H).drewN _).drewN _ | exact (unhide H).setN _ _ (by omega) | exact ((unhide H).drewN _).setN _ _ (by omega) | exact ((unhide H).setN _ _ (by omega)).drewN _) hL (by omega)).mono ?_; rintro e wq ⟨rfl, hwq⟩; have hwr := hwq.symm; subst hwr; clear hwq) | (go_at_call 130; refine (shortNumber_any _ _ (by omega)).mono ?_; rintro e w1 ⟨rfl, hOs⟩; have H := hide ((unhide H).keep hOs (fun f => f) (fun _ _ f => f)); have HS := hide ((unhide HS).keep hOs (fun _ _ f => f)); have c1 := (unhide H).c1; have f1 := (unhide H).f1) | (go_at_call 71; refine (take_no b L (n) len dp _ _ (by first | exact unhide H | exact (unhide H).drewN _ | exact ((unhide H).drewN _).drewN _ | exact (unhide H).setN _ _ (by omega) | exact ((unhide H).drewN _).setN _ _ (by omega) | exact ((unhide H).setN _ _ (by omega)).drewN _) hL (by omega) (by decide) (by assumption)).mono ?_; rintro e wq ⟨rfl, qq, rfl⟩) | (go_at_call 71; refine (take_yes b L (n) len dp _ _ (by first | exact unhide H | exact (unhide H).drewN _ | exact ((unhide H).drewN _).drewN _ | exact (unhide H).setN _ _ (by omega) | exact ((unhide H).drewN _).setN _ _ (by omega) | exact ((unhide H).setN _ _ (by omega)).drewN _) hL (by omega) (by decide) (by assumption)).mono ?_; rintro e w3 ⟨rfl, hR3, hO3⟩; have hR3 : RdAt w3 b L ((n) + 1) len dp := hR3; have H3 := hide hR3); (have HS := hide ((unhide HS).mine (by first | exact hO3 | exact ((Only.refl _ _).drewN _).trans hO3) hb)) | (go_at_call 131; refine (zero_tells b L (n + 1) len dp a _ (by first | exact unhide H3 | exact (unhide H3).drewN _ | exact ((unhide H3).drewN _).drewN _ | exact (unhide H3).setN _ _ (by omega) | exact ((unhide H3).drewN _).setN _ _ (by omega) | exact ((unhide H3).setN _ _ (by omega)).drewN _) (by first | exact unhide HS | exact (unhide HS).drewN _ | exact (unhide HS).mine ((Only.refl _ _).mine _ _) hb | exact (unhide HS).mine (((Only.refl _ _).drewN _).mine _ _) hb) hb hL (by omega) hF).mono ?_; rintro e w4 ⟨hO4, hR4, hT4⟩; obtain rfl := told_yes hT4 hk; have H4 := hide hR4; have c14 := hR4.c1; have f14 := hR4.f1))
        go_ret2
        rw [unhide HO]
        exact Tells.yes hk (by first | exact (hOs.none.trans hO3).trans hO4 | exact ((hOs.none.drewN _).trans hO3).trans hO4) hR4
      · go_enter Tryz.func124, Tryz.ntmps124
        go_wp2_with (first | (go_at_call 89; refine (peek_any b L (n) len dp _ (by first | exact unhide H | exact (unhide H).drewN _ | exact ((unhide H).drewN _).drewN _ | exact (unhide H).setN _ _ (by omega) | exact ((unhide H).drewN _).setN _ _ (by omega) | exact ((unhide H).setN _ _ (by omega)).drewN _) hL (by omega)).mono ?_; rintro e wq ⟨rfl, hwq⟩; have hwr := hwq.symm; subst hwr; clear hwq) | (go_at_call 130; refine (shortNumber_any _ _ (by omega)).mono ?_; rintro e w1 ⟨rfl, hOs⟩; have H := hide ((unhide H).keep hOs (fun f => f) (fun _ _ f => f)); have HS := hide ((unhide HS).keep hOs (fun _ _ f => f)); have c1 := (unhide H).c1; have f1 := (unhide H).f1) | (go_at_call 71; refine (take_no b L (n) len dp _ _ (by first | exact unhide H | exact (unhide H).drewN _ | exact ((unhide H).drewN _).drewN _ | exact (unhide H).setN _ _ (by omega) | exact ((unhide H).drewN _).setN _ _ (by omega) | exact ((unhide H).setN _ _ (by omega)).drewN _) hL (by omega) (by decide) (by assumption)).mono ?_; rintro e wq ⟨rfl, qq, rfl⟩) | (go_at_call 71; refine (take_yes b L (n) len dp _ _ (by first | exact unhide H | exact (unhide H).drewN _ | exact ((unhide H).drewN _).drewN _ | exact (unhide H).setN _ _ (by omega) | exact ((unhide H).drewN _).setN _ _ (by omega) | exact ((unhide H).setN _ _ (by omega)).drewN _) hL (by omega) (by decide) (by assumption)).mono ?_; rintro e w3 ⟨rfl, hR3, hO3⟩; have hR3 : RdAt w3 b L ((n) + 1) len dp := hR3; have H3 := hide hR3); (have HS := hide ((unhide HS).mine (by first | exact hO3 | exact ((Only.refl _ _).drewN _).trans hO3) hb)) | (go_at_call 131; refine (zero_tells b L (n + 1) len dp a _ (by first | exact unhide H3 | exact (unhide H3).drewN _ | exact ((unhide H3).drewN _).drewN _ | exact (unhide H3).setN _ _ (by omega) | exact ((unhide H3).drewN _).setN _ _ (by omega) | exact ((unhide H3).setN _ _ (by omega)).drewN _) (by first | exact unhide HS | exact (unhide HS).drewN _ | exact (unhide HS).mine ((Only.refl _ _).mine _ _) hb | exact (unhide HS).mine (((Only.refl _ _).drewN _).mine _ _) hb) hb hL (by omega) hF).mono ?_; rintro e w4 ⟨hO4, hR4, hT4⟩; obtain ⟨v4, rfl, hv4⟩ := told_no hT4 hk; obtain ⟨g4, hg4⟩ := hv4.form; subst hg4; have H4 := hide hR4; have c14 := hR4.c1; have f14 := hR4.f1))
        go_ret2
        rw [unhide HO]
        exact Tells.no hk (by first | exact (hOs.none.trans hO3).trans hO4 | exact ((hOs.none.drewN _).trans hO3).trans hO4) hR4 (hv4.base (by first | exact (hOs.none.trans hO3).size | exact ((hOs.none.drewN _).trans hO3).size))
    · by_cases q1 : Pro.letAt L n = 99
      · have HO : Hid (Pro.numO L len n = Pro.controlO L len (n + 1)) := by unfold Pro.numO; rw [hsh]; simp only [Bool.false_eq_true, if_false]; rw [if_neg q0]; rw [if_pos q1]; rfl
        have hlt : n < L.length := Pro.letAt_in' (by omega)
        have m0 : Pro.matchB L n { data := #[48] } = false := by rw [Pro.matchB_one L n 48 48 rfl]; simp; omega
        have m1 : Pro.matchB L n { data := #[99] } = true := by rw [Pro.matchB_one L n 99 99 rfl]; simp; omega
        clear q0 q1
        by_cases hk : (Pro.controlO L len (n + 1)).k = 0
        · go_enter Tryz.func124, Tryz.ntmps124
          go_wp2_with (first | (go_at_call 89; refine (peek_any b L (n) len dp _ (by first | exact unhide H | exact (unhide H).drewN _ | exact ((unhide H).drewN _).drewN _ | exact (unhide H).setN _ _ (by omega) | exact ((unhide H).drewN _).setN _ _ (by omega) | exact ((unhide H).setN _ _ (by omega)).drewN _) hL (by omega)).mono ?_; rintro e wq ⟨rfl, hwq⟩; have hwr := hwq.symm; subst hwr; clear hwq) | (go_at_call 130; refine (shortNumber_any _ _ (by omega)).mono ?_; rintro e w1 ⟨rfl, hOs⟩; have H := hide ((unhide H).keep hOs (fun f => f) (fun _ _ f => f)); have HS := hide ((unhide HS).keep hOs (fun _ _ f => f)); have c1 := (unhide H).c1; have f1 := (unhide H).f1) | (go_at_call 71; refine (take_no b L (n) len dp _ _ (by first | exact unhide H | exact (unhide H).drewN _ | exact ((unhide H).drewN _).drewN _ | exact (unhide H).setN _ _ (by omega) | exact ((unhide H).drewN _).setN _ _ (by omega) | exact ((unhide H).setN _ _ (by omega)).drewN _) hL (by omega) (by decide) (by assumption)).mono ?_; rintro e wq ⟨rfl, qq, rfl⟩) | (go_at_call 71; refine (take_yes b L (n) len dp _ _ (by first | exact unhide H | exact (unhide H).drewN _ | exact ((unhide H).drewN _).drewN _ | exact (unhide H).setN _ _ (by omega) | exact ((unhide H).drewN _).setN _ _ (by omega) | exact ((unhide H).setN _ _ (by omega)).drewN _) hL (by omega) (by decide) (by assumption)).mono ?_; rintro e w3 ⟨rfl, hR3, hO3⟩; have hR3 : RdAt w3 b L ((n) + 1) len dp := hR3; have H3 := hide hR3); (have HS := hide ((unhide HS).mine (by first | exact hO3 | exact ((Only.refl _ _).drewN _).trans hO3) hb)) | (go_at_call 132; refine (pcontrol_any b L (n + 1) len dp a _ (by first | exact unhide H3 | exact (unhide H3).drewN _ | exact ((unhide H3).drewN _).drewN _ | exact (unhide H3).setN _ _ (by omega) | exact ((unhide H3).drewN _).setN _ _ (by omega) | exact ((unhide H3).setN _ _ (by omega)).drewN _) (by first | exact unhide HS | exact (unhide HS).drewN _ | exact (unhide HS).mine ((Only.refl _ _).mine _ _) hb | exact (unhide HS).mine (((Only.refl _ _).drewN _).mine _ _) hb) hb hL (by omega) hF).mono ?_; rintro e w4 ⟨hO4, hR4, hT4⟩; obtain rfl := told_yes hT4 hk; have H4 := hide hR4; have c14 := hR4.c1; have f14 := hR4.f1))
          go_ret2
          rw [unhide HO]
          exact Tells.yes hk (by first | exact (hOs.none.trans hO3).trans hO4 | exact ((hOs.none.drewN _).trans hO3).trans hO4) hR4
        · go_enter Tryz.func124, Tryz.ntmps124
          go_wp2_with (first | (go_at_call 89; refine (peek_any b L (n) len dp _ (by first | exact unhide H | exact (unhide H).drewN _ | exact ((unhide H).drewN _).drewN _ | exact (unhide H).setN _ _ (by omega) | exact ((unhide H).drewN _).setN _ _ (by omega) | exact ((unhide H).setN _ _ (by omega)).drewN _) hL (by omega)).mono ?_; rintro e wq ⟨rfl, hwq⟩; have hwr := hwq.symm; subst hwr; clear hwq) | (go_at_call 130; refine (shortNumber_any _ _ (by omega)).mono ?_; rintro e w1 ⟨rfl, hOs⟩; have H := hide ((unhide H).keep hOs (fun f => f) (fun _ _ f => f)); have HS := hide ((unhide HS).keep hOs (fun _ _ f => f)); have c1 := (unhide H).c1; have f1 := (unhide H).f1) | (go_at_call 71; refine (take_no b L (n) len dp _ _ (by first | exact unhide H | exact (unhide H).drewN _ | exact ((unhide H).drewN _).drewN _ | exact (unhide H).setN _ _ (by omega) | exact ((unhide H).drewN _).setN _ _ (by omega) | exact ((unhide H).setN _ _ (by omega)).drewN _) hL (by omega) (by decide) (by assumption)).mono ?_; rintro e wq ⟨rfl, qq, rfl⟩) | (go_at_call 71; refine (take_yes b L (n) len dp _ _ (by first | exact unhide H | exact (unhide H).drewN _ | exact ((unhide H).drewN _).drewN _ | exact (unhide H).setN _ _ (by omega) | exact ((unhide H).drewN _).setN _ _ (by omega) | exact ((unhide H).setN _ _ (by omega)).drewN _) hL (by omega) (by decide) (by assumption)).mono ?_; rintro e w3 ⟨rfl, hR3, hO3⟩; have hR3 : RdAt w3 b L ((n) + 1) len dp := hR3; have H3 := hide hR3); (have HS := hide ((unhide HS).mine (by first | exact hO3 | exact ((Only.refl _ _).drewN _).trans hO3) hb)) | (go_at_call 132; refine (pcontrol_any b L (n + 1) len dp a _ (by first | exact unhide H3 | exact (unhide H3).drewN _ | exact ((unhide H3).drewN _).drewN _ | exact (unhide H3).setN _ _ (by omega) | exact ((unhide H3).drewN _).setN _ _ (by omega) | exact ((unhide H3).setN _ _ (by omega)).drewN _) (by first | exact unhide HS | exact (unhide HS).drewN _ | exact (unhide HS).mine ((Only.refl _ _).mine _ _) hb | exact (unhide HS).mine (((Only.refl _ _).drewN _).mine _ _) hb) hb hL (by omega) hF).mono ?_; rintro e w4 ⟨hO4, hR4, hT4⟩; obtain ⟨v4, rfl, hv4⟩ := told_no hT4 hk; obtain ⟨g4, hg4⟩ := hv4.form; subst hg4; have H4 := hide hR4; have c14 := hR4.c1; have f14 := hR4.f1))
          go_ret2
          rw [unhide HO]
          exact Tells.no hk (by first | exact (hOs.none.trans hO3).trans hO4 | exact ((hOs.none.drewN _).trans hO3).trans hO4) hR4 (hv4.base (by first | exact (hOs.none.trans hO3).size | exact ((hOs.none.drewN _).trans hO3).size))
      · by_cases q2 : Pro.letAt L n = 120
        · have HO : Hid (Pro.numO L len n = Pro.hexO L len 2 0 (n + 1)) := by unfold Pro.numO; rw [hsh]; simp only [Bool.false_eq_true, if_false]; rw [if_neg q0]; rw [if_neg q1]; rw [if_pos q2]; rfl
          have hlt : n < L.length := Pro.letAt_in' (by omega)
          have m0 : Pro.matchB L n { data := #[48] } = false := by rw [Pro.matchB_one L n 48 48 rfl]; simp; omega
          have m1 : Pro.matchB L n { data := #[99] } = false := by rw [Pro.matchB_one L n 99 99 rfl]; simp; omega
          have m2 : Pro.matchB L n { data := #[120] } = true := by rw [Pro.matchB_one L n 120 120 rfl]; simp; omega
          clear q0 q1 q2
          by_cases hk : (Pro.hexO L len 2 0 (n + 1)).k = 0
          · go_enter Tryz.func124, Tryz.ntmps124
            go_wp2_with (first | (go_at_call 89; refine (peek_any b L (n) len dp _ (by first | exact unhide H | exact (unhide H).drewN _ | exact ((unhide H).drewN _).drewN _ | exact (unhide H).setN _ _ (by omega) | exact ((unhide H).drewN _).setN _ _ (by omega) | exact ((unhide H).setN _ _ (by omega)).drewN _) hL (by omega)).mono ?_; rintro e wq ⟨rfl, hwq⟩; have hwr := hwq.symm; subst hwr; clear hwq) | (go_at_call 130; refine (shortNumber_any _ _ (by omega)).mono ?_; rintro e w1 ⟨rfl, hOs⟩; have H := hide ((unhide H).keep hOs (fun f => f) (fun _ _ f => f)); have HS := hide ((unhide HS).keep hOs (fun _ _ f => f)); have c1 := (unhide H).c1; have f1 := (unhide H).f1) | (go_at_call 71; refine (take_no b L (n) len dp _ _ (by first | exact unhide H | exact (unhide H).drewN _ | exact ((unhide H).drewN _).drewN _ | exact (unhide H).setN _ _ (by omega) | exact ((unhide H).drewN _).setN _ _ (by omega) | exact ((unhide H).setN _ _ (by omega)).drewN _) hL (by omega) (by decide) (by assumption)).mono ?_; rintro e wq ⟨rfl, qq, rfl⟩) | (go_at_call 71; refine (take_yes b L (n) len dp _ _ (by first | exact unhide H | exact (unhide H).drewN _ | exact ((unhide H).drewN _).drewN _ | exact (unhide H).setN _ _ (by omega) | exact ((unhide H).drewN _).setN _ _ (by omega) | exact ((unhide H).setN _ _ (by omega)).drewN _) hL (by omega) (by decide) (by assumption)).mono ?_; rintro e w3 ⟨rfl, hR3, hO3⟩; have hR3 : RdAt w3 b L ((n) + 1) len dp := hR3; have H3 := hide hR3); (have HS := hide ((unhide HS).mine (by first | exact hO3 | exact ((Only.refl _ _).drewN _).trans hO3) hb)) | (go_at_call 133; refine (hexNumber_any b L (n + 1) len dp a 2 _ (by first | exact unhide H3 | exact (unhide H3).drewN _ | exact ((unhide H3).drewN _).drewN _ | exact (unhide H3).setN _ _ (by omega) | exact ((unhide H3).drewN _).setN _ _ (by omega) | exact ((unhide H3).setN _ _ (by omega)).drewN _) (by first | exact unhide HS | exact (unhide HS).drewN _ | exact (unhide HS).mine ((Only.refl _ _).mine _ _) hb | exact (unhide HS).mine (((Only.refl _ _).drewN _).mine _ _) hb) hb hL (by omega) hF (by omega)).mono ?_; rintro e w4 ⟨hO4, hR4, hT4⟩; obtain rfl := told_yes hT4 hk; have H4 := hide hR4; have c14 := hR4.c1; have f14 := hR4.f1))
            go_ret2
            rw [unhide HO]
            exact Tells.yes hk (by first | exact (hOs.none.trans hO3).trans hO4 | exact ((hOs.none.drewN _).trans hO3).trans hO4) hR4
          · go_enter Tryz.func124, Tryz.ntmps124
            go_wp2_with (first | (go_at_call 89; refine (peek_any b L (n) len dp _ (by first | exact unhide H | exact (unhide H).drewN _ | exact ((unhide H).drewN _).drewN _ | exact (unhide H).setN _ _ (by omega) | exact ((unhide H).drewN _).setN _ _ (by omega) | exact ((unhide H).setN _ _ (by omega)).drewN _) hL (by omega)).mono ?_; rintro e wq ⟨rfl, hwq⟩; have hwr := hwq.symm; subst hwr; clear hwq) | (go_at_call 130; refine (shortNumber_any _ _ (by omega)).mono ?_; rintro e w1 ⟨rfl, hOs⟩; have H := hide ((unhide H).keep hOs (fun f => f) (fun _ _ f => f)); have HS := hide ((unhide HS).keep hOs (fun _ _ f => f)); have c1 := (unhide H).c1; have f1 := (unhide H).f1) | (go_at_call 71; refine (take_no b L (n) len dp _ _ (by first | exact unhide H | exact (unhide H).drewN _ | exact ((unhide H).drewN _).drewN _ | exact (unhide H).setN _ _ (by omega) | exact ((unhide H).drewN _).setN _ _ (by omega) | exact ((unhide H).setN _ _ (by omega)).drewN _) hL (by omega) (by decide) (by assumption)).mono ?_; rintro e wq ⟨rfl, qq, rfl⟩) | (go_at_call 71; refine (take_yes b L (n) len dp _ _ (by first | exact unhide H | exact (unhide H).drewN _ | exact ((unhide H).drewN _).drewN _ | exact (unhide H).setN _ _ (by omega) | exact ((unhide H).drewN _).setN _ _ (by omega) | exact ((unhide H).setN _ _ (by omega)).drewN _) hL (by omega) (by decide) (by assumption)).mono ?_; rintro e w3 ⟨rfl, hR3, hO3⟩; have hR3 : RdAt w3 b L ((n) + 1) len dp := hR3; have H3 := hide hR3); (have HS := hide ((unhide HS).mine (by first | exact hO3 | exact ((Only.refl _ _).drewN _).trans hO3) hb)) | (go_at_call 133; refine (hexNumber_any b L (n + 1) len dp a 2 _ (by first | exact unhide H3 | exact (unhide H3).drewN _ | exact ((unhide H3).drewN _).drewN _ | exact (unhide H3).setN _ _ (by omega) | exact ((unhide H3).drewN _).setN _ _ (by omega) | exact ((unhide H3).setN _ _ (by omega)).drewN _) (by first | exact unhide HS | exact (unhide HS).drewN _ | exact (unhide HS).mine ((Only.refl _ _).mine _ _) hb | exact (unhide HS).mine (((Only.refl _ _).drewN _).mine _ _) hb) hb hL (by omega) hF (by omega)).mono ?_; rintro e w4 ⟨hO4, hR4, hT4⟩; obtain ⟨v4, rfl, hv4⟩ := told_no hT4 hk; obtain ⟨g4, hg4⟩ := hv4.form; subst hg4; have H4 := hide hR4; have c14 := hR4.c1; have f14 := hR4.f1))
            go_ret2
            rw [unhide HO]
            exact Tells.no hk (by first | exact (hOs.none.trans hO3).trans hO4 | exact ((hOs.none.drewN _).trans hO3).trans hO4) hR4 (hv4.base (by first | exact (hOs.none.trans hO3).size | exact ((hOs.none.drewN _).trans hO3).size))
        · by_cases q3 : Pro.letAt L n = 117 ∧ Pro.letAt L (n + 1) = 123
          · have HO : Hid (Pro.numO L len n = Pro.bracedP L len (n + 2)) := by unfold Pro.numO; rw [hsh]; simp only [Bool.false_eq_true, if_false]; rw [if_neg q0]; rw [if_neg q1]; rw [if_neg q2]; rw [if_pos q3]; rfl
            have hlt : n < L.length := Pro.letAt_in' (by omega)
            have hlt2 : n + 1 < L.length := Pro.letAt_in' (by omega)
            have m0 : Pro.matchB L n { data := #[48] } = false := by rw [Pro.matchB_one L n 48 48 rfl]; simp; omega
            have m1 : Pro.matchB L n { data := #[99] } = false := by rw [Pro.matchB_one L n 99 99 rfl]; simp; omega
            have m2 : Pro.matchB L n { data := #[120] } = false := by rw [Pro.matchB_one L n 120 120 rfl]; simp; omega
            have m3 : Pro.matchB L n { data := #[117, 123] } = true := by rw [Pro.matchB_two L n 117 123 117 123 rfl rfl]; simp; omega
            clear q0 q1 q2 q3
            by_cases hk : (Pro.bracedP L len (n + 2)).k = 0
            · go_enter Tryz.func124, Tryz.ntmps124
              go_wp2_with (first | (go_at_call 89; refine (peek_any b L (n) len dp _ (by first | exact unhide H | exact (unhide H).drewN _ | exact ((unhide H).drewN _).drewN _ | exact (unhide H).setN _ _ (by omega) | exact ((unhide H).drewN _).setN _ _ (by omega) | exact ((unhide H).setN _ _ (by omega)).drewN _) hL (by omega)).mono ?_; rintro e wq ⟨rfl, hwq⟩; have hwr := hwq.symm; subst hwr; clear hwq) | (go_at_call 130; refine (shortNumber_any _ _ (by omega)).mono ?_; rintro e w1 ⟨rfl, hOs⟩; have H := hide ((unhide H).keep hOs (fun f => f) (fun _ _ f => f)); have HS := hide ((unhide HS).keep hOs (fun _ _ f => f)); have c1 := (unhide H).c1; have f1 := (unhide H).f1) | (go_at_call 71; refine (take_no b L (n) len dp _ _ (by first | exact unhide H | exact (unhide H).drewN _ | exact ((unhide H).drewN _).drewN _ | exact (unhide H).setN _ _ (by omega) | exact ((unhide H).drewN _).setN _ _ (by omega) | exact ((unhide H).setN _ _ (by omega)).drewN _) hL (by omega) (by decide) (by assumption)).mono ?_; rintro e wq ⟨rfl, qq, rfl⟩) | (go_at_call 71; refine (take_yes b L (n) len dp _ _ (by first | exact unhide H | exact (unhide H).drewN _ | exact ((unhide H).drewN _).drewN _ | exact (unhide H).setN _ _ (by omega) | exact ((unhide H).drewN _).setN _ _ (by omega) | exact ((unhide H).setN _ _ (by omega)).drewN _) hL (by omega) (by decide) (by assumption)).mono ?_; rintro e w3 ⟨rfl, hR3, hO3⟩; have hR3 : RdAt w3 b L ((n) + 2) len dp := hR3; have H3 := hide hR3); (have HS := hide ((unhide HS).mine (by first | exact hO3 | exact ((Only.refl _ _).drewN _).trans hO3) hb)) | (go_at_call 134; refine (bracedNumber_any b L (n + 2) len dp a _ (by first | exact unhide H3 | exact (unhide H3).drewN _ | exact ((unhide H3).drewN _).drewN _ | exact (unhide H3).setN _ _ (by omega) | exact ((unhide H3).drewN _).setN _ _ (by omega) | exact ((unhide H3).setN _ _ (by omega)).drewN _) (by first | exact unhide HS | exact (unhide HS).drewN _ | exact (unhide HS).mine ((Only.refl _ _).mine _ _) hb | exact (unhide HS).mine (((Only.refl _ _).drewN _).mine _ _) hb) hb hL (by omega) hF).mono ?_; rintro e w4 ⟨hO4, hR4, hT4⟩; obtain rfl := told_yes hT4 hk; have H4 := hide hR4; have c14 := hR4.c1; have f14 := hR4.f1))
              go_ret2
              rw [unhide HO]
              exact Tells.yes hk (by first | exact (hOs.none.trans hO3).trans hO4 | exact ((hOs.none.drewN _).trans hO3).trans hO4) hR4
            · go_enter Tryz.func124, Tryz.ntmps124
              go_wp2_with (first | (go_at_call 89; refine (peek_any b L (n) len dp _ (by first | exact unhide H | exact (unhide H).drewN _ | exact ((unhide H).drewN _).drewN _ | exact (unhide H).setN _ _ (by omega) | exact ((unhide H).drewN _).setN _ _ (by omega) | exact ((unhide H).setN _ _ (by omega)).drewN _) hL (by omega)).mono ?_; rintro e wq ⟨rfl, hwq⟩; have hwr := hwq.symm; subst hwr; clear hwq) | (go_at_call 130; refine (shortNumber_any _ _ (by omega)).mono ?_; rintro e w1 ⟨rfl, hOs⟩; have H := hide ((unhide H).keep hOs (fun f => f) (fun _ _ f => f)); have HS := hide ((unhide HS).keep hOs (fun _ _ f => f)); have c1 := (unhide H).c1; have f1 := (unhide H).f1) | (go_at_call 71; refine (take_no b L (n) len dp _ _ (by first | exact unhide H | exact (unhide H).drewN _ | exact ((unhide H).drewN _).drewN _ | exact (unhide H).setN _ _ (by omega) | exact ((unhide H).drewN _).setN _ _ (by omega) | exact ((unhide H).setN _ _ (by omega)).drewN _) hL (by omega) (by decide) (by assumption)).mono ?_; rintro e wq ⟨rfl, qq, rfl⟩) | (go_at_call 71; refine (take_yes b L (n) len dp _ _ (by first | exact unhide H | exact (unhide H).drewN _ | exact ((unhide H).drewN _).drewN _ | exact (unhide H).setN _ _ (by omega) | exact ((unhide H).drewN _).setN _ _ (by omega) | exact ((unhide H).setN _ _ (by omega)).drewN _) hL (by omega) (by decide) (by assumption)).mono ?_; rintro e w3 ⟨rfl, hR3, hO3⟩; have hR3 : RdAt w3 b L ((n) + 2) len dp := hR3; have H3 := hide hR3); (have HS := hide ((unhide HS).mine (by first | exact hO3 | exact ((Only.refl _ _).drewN _).trans hO3) hb)) | (go_at_call 134; refine (bracedNumber_any b L (n + 2) len dp a _ (by first | exact unhide H3 | exact (unhide H3).drewN _ | exact ((unhide H3).drewN _).drewN _ | exact (unhide H3).setN _ _ (by omega) | exact ((unhide H3).drewN _).setN _ _ (by omega) | exact ((unhide H3).setN _ _ (by omega)).drewN _) (by first | exact unhide HS | exact (unhide HS).drewN _ | exact (unhide HS).mine ((Only.refl _ _).mine _ _) hb | exact (unhide HS).mine (((Only.refl _ _).drewN _).mine _ _) hb) hb hL (by omega) hF).mono ?_; rintro e w4 ⟨hO4, hR4, hT4⟩; obtain ⟨v4, rfl, hv4⟩ := told_no hT4 hk; obtain ⟨g4, hg4⟩ := hv4.form; subst hg4; have H4 := hide hR4; have c14 := hR4.c1; have f14 := hR4.f1))
              go_ret2
              rw [unhide HO]
              exact Tells.no hk (by first | exact (hOs.none.trans hO3).trans hO4 | exact ((hOs.none.drewN _).trans hO3).trans hO4) hR4 (hv4.base (by first | exact (hOs.none.trans hO3).size | exact ((hOs.none.drewN _).trans hO3).size))
          · by_cases q4 : Pro.letAt L n = 117
            · have HO : Hid (Pro.numO L len n = Pro.unicodeO L len (n + 1)) := by unfold Pro.numO; rw [hsh]; simp only [Bool.false_eq_true, if_false]; rw [if_neg q0]; rw [if_neg q1]; rw [if_neg q2]; rw [if_neg q3]; rw [if_pos q4]; rfl
              have hlt : n < L.length := Pro.letAt_in' (by omega)
              have m0 : Pro.matchB L n { data := #[48] } = false := by rw [Pro.matchB_one L n 48 48 rfl]; simp; omega
              have m1 : Pro.matchB L n { data := #[99] } = false := by rw [Pro.matchB_one L n 99 99 rfl]; simp; omega
              have m2 : Pro.matchB L n { data := #[120] } = false := by rw [Pro.matchB_one L n 120 120 rfl]; simp; omega
              have m3 : Pro.matchB L n { data := #[117, 123] } = false := by rw [Pro.matchB_two L n 117 123 117 123 rfl rfl]; simp; omega
              have m4 : Pro.matchB L n { data := #[117] } = true := by rw [Pro.matchB_one L n 117 117 rfl]; simp; omega
              clear q0 q1 q2 q3 q4
              by_cases hk : (Pro.unicodeO L len (n + 1)).k = 0
              · go_enter Tryz.func124, Tryz.ntmps124
                go_wp2_with (first | (go_at_call 89; refine (peek_any b L (n) len dp _ (by first | exact unhide H | exact (unhide H).drewN _ | exact ((unhide H).drewN _).drewN _ | exact (unhide H).setN _ _ (by omega) | exact ((unhide H).drewN _).setN _ _ (by omega) | exact ((unhide H).setN _ _ (by omega)).drewN _) hL (by omega)).mono ?_; rintro e wq ⟨rfl, hwq⟩; have hwr := hwq.symm; subst hwr; clear hwq) | (go_at_call 130; refine (shortNumber_any _ _ (by omega)).mono ?_; rintro e w1 ⟨rfl, hOs⟩; have H := hide ((unhide H).keep hOs (fun f => f) (fun _ _ f => f)); have HS := hide ((unhide HS).keep hOs (fun _ _ f => f)); have c1 := (unhide H).c1; have f1 := (unhide H).f1) | (go_at_call 71; refine (take_no b L (n) len dp _ _ (by first | exact unhide H | exact (unhide H).drewN _ | exact ((unhide H).drewN _).drewN _ | exact (unhide H).setN _ _ (by omega) | exact ((unhide H).drewN _).setN _ _ (by omega) | exact ((unhide H).setN _ _ (by omega)).drewN _) hL (by omega) (by decide) (by assumption)).mono ?_; rintro e wq ⟨rfl, qq, rfl⟩) | (go_at_call 71; refine (take_yes b L (n) len dp _ _ (by first | exact unhide H | exact (unhide H).drewN _ | exact ((unhide H).drewN _).drewN _ | exact (unhide H).setN _ _ (by omega) | exact ((unhide H).drewN _).setN _ _ (by omega) | exact ((unhide H).setN _ _ (by omega)).drewN _) hL (by omega) (by decide) (by assumption)).mono ?_; rintro e w3 ⟨rfl, hR3, hO3⟩; have hR3 : RdAt w3 b L ((n) + 1) len dp := hR3; have H3 := hide hR3); (have HS := hide ((unhide HS).mine (by first | exact hO3 | exact ((Only.refl _ _).drewN _).trans hO3) hb)) | (go_at_call 135; refine (unicodeNumber_any b L (n + 1) len dp a _ (by first | exact unhide H3 | exact (unhide H3).drewN _ | exact ((unhide H3).drewN _).drewN _ | exact (unhide H3).setN _ _ (by omega) | exact ((unhide H3).drewN _).setN _ _ (by omega) | exact ((unhide H3).setN _ _ (by omega)).drewN _) (by first | exact unhide HS | exact (unhide HS).drewN _ | exact (unhide HS).mine ((Only.refl _ _).mine _ _) hb | exact (unhide HS).mine (((Only.refl _ _).drewN _).mine _ _) hb) hb hL (by omega) hF).mono ?_; rintro e w4 ⟨hO4, hR4, hT4⟩; obtain rfl := told_yes hT4 hk; have H4 := hide hR4; have c14 := hR4.c1; have f14 := hR4.f1))
                go_ret2
                rw [unhide HO]
                exact Tells.yes hk (by first | exact (hOs.none.trans hO3).trans hO4 | exact ((hOs.none.drewN _).trans hO3).trans hO4) hR4
              · go_enter Tryz.func124, Tryz.ntmps124
                go_wp2_with (first | (go_at_call 89; refine (peek_any b L (n) len dp _ (by first | exact unhide H | exact (unhide H).drewN _ | exact ((unhide H).drewN _).drewN _ | exact (unhide H).setN _ _ (by omega) | exact ((unhide H).drewN _).setN _ _ (by omega) | exact ((unhide H).setN _ _ (by omega)).drewN _) hL (by omega)).mono ?_; rintro e wq ⟨rfl, hwq⟩; have hwr := hwq.symm; subst hwr; clear hwq) | (go_at_call 130; refine (shortNumber_any _ _ (by omega)).mono ?_; rintro e w1 ⟨rfl, hOs⟩; have H := hide ((unhide H).keep hOs (fun f => f) (fun _ _ f => f)); have HS := hide ((unhide HS).keep hOs (fun _ _ f => f)); have c1 := (unhide H).c1; have f1 := (unhide H).f1) | (go_at_call 71; refine (take_no b L (n) len dp _ _ (by first | exact unhide H | exact (unhide H).drewN _ | exact ((unhide H).drewN _).drewN _ | exact (unhide H).setN _ _ (by omega) | exact ((unhide H).drewN _).setN _ _ (by omega) | exact ((unhide H).setN _ _ (by omega)).drewN _) hL (by omega) (by decide) (by assumption)).mono ?_; rintro e wq ⟨rfl, qq, rfl⟩) | (go_at_call 71; refine (take_yes b L (n) len dp _ _ (by first | exact unhide H | exact (unhide H).drewN _ | exact ((unhide H).drewN _).drewN _ | exact (unhide H).setN _ _ (by omega) | exact ((unhide H).drewN _).setN _ _ (by omega) | exact ((unhide H).setN _ _ (by omega)).drewN _) hL (by omega) (by decide) (by assumption)).mono ?_; rintro e w3 ⟨rfl, hR3, hO3⟩; have hR3 : RdAt w3 b L ((n) + 1) len dp := hR3; have H3 := hide hR3); (have HS := hide ((unhide HS).mine (by first | exact hO3 | exact ((Only.refl _ _).drewN _).trans hO3) hb)) | (go_at_call 135; refine (unicodeNumber_any b L (n + 1) len dp a _ (by first | exact unhide H3 | exact (unhide H3).drewN _ | exact ((unhide H3).drewN _).drewN _ | exact (unhide H3).setN _ _ (by omega) | exact ((unhide H3).drewN _).setN _ _ (by omega) | exact ((unhide H3).setN _ _ (by omega)).drewN _) (by first | exact unhide HS | exact (unhide HS).drewN _ | exact (unhide HS).mine ((Only.refl _ _).mine _ _) hb | exact (unhide HS).mine (((Only.refl _ _).drewN _).mine _ _) hb) hb hL (by omega) hF).mono ?_; rintro e w4 ⟨hO4, hR4, hT4⟩; obtain ⟨v4, rfl, hv4⟩ := told_no hT4 hk; obtain ⟨g4, hg4⟩ := hv4.form; subst hg4; have H4 := hide hR4; have c14 := hR4.c1; have f14 := hR4.f1))
                go_ret2
                rw [unhide HO]
                exact Tells.no hk (by first | exact (hOs.none.trans hO3).trans hO4 | exact ((hOs.none.drewN _).trans hO3).trans hO4) hR4 (hv4.base (by first | exact (hOs.none.trans hO3).size | exact ((hOs.none.drewN _).trans hO3).size))
            · have HO : Hid (Pro.numO L len n = Pro.bad 3 (Pro.placeAt L len n) n) := by unfold Pro.numO; rw [hsh]; simp only [Bool.false_eq_true, if_false]; rw [if_neg q0]; rw [if_neg q1]; rw [if_neg q2]; rw [if_neg q3]; rw [if_neg q4]; rfl
              have m0 : Pro.matchB L n { data := #[48] } = false := by rw [Pro.matchB_one L n 48 48 rfl]; simp; omega
              have m1 : Pro.matchB L n { data := #[99] } = false := by rw [Pro.matchB_one L n 99 99 rfl]; simp; omega
              have m2 : Pro.matchB L n { data := #[120] } = false := by rw [Pro.matchB_one L n 120 120 rfl]; simp; omega
              have m3 : Pro.matchB L n { data := #[117, 123] } = false := by rw [Pro.matchB_two L n 117 123 117 123 rfl rfl]; simp; omega
              have m4 : Pro.matchB L n { data := #[117] } = false := by rw [Pro.matchB_one L n 117 117 rfl]; simp; omega
              clear q0 q1 q2 q3 q4
              go_enter Tryz.func124, Tryz.ntmps124
              go_wp2_with (first | (go_at_call 89; refine (peek_any b L (n) len dp _ (by first | exact unhide H | exact (unhide H).drewN _ | exact ((unhide H).drewN _).drewN _ | exact (unhide H).setN _ _ (by omega) | exact ((unhide H).drewN _).setN _ _ (by omega) | exact ((unhide H).setN _ _ (by omega)).drewN _) hL (by omega)).mono ?_; rintro e wq ⟨rfl, hwq⟩; have hwr := hwq.symm; subst hwr; clear hwq) | (go_at_call 130; refine (shortNumber_any _ _ (by omega)).mono ?_; rintro e w1 ⟨rfl, hOs⟩; have H := hide ((unhide H).keep hOs (fun f => f) (fun _ _ f => f)); have HS := hide ((unhide HS).keep hOs (fun _ _ f => f)); have c1 := (unhide H).c1; have f1 := (unhide H).f1) | (go_at_call 71; refine (take_no b L (n) len dp _ _ (by first | exact unhide H | exact (unhide H).drewN _ | exact ((unhide H).drewN _).drewN _ | exact (unhide H).setN _ _ (by omega) | exact ((unhide H).drewN _).setN _ _ (by omega) | exact ((unhide H).setN _ _ (by omega)).drewN _) hL (by omega) (by decide) (by assumption)).mono ?_; rintro e wq ⟨rfl, qq, rfl⟩) | (go_at_call 50; refine (wrong_at b L (n) len dp a _ (by first | exact unhide H | exact (unhide H).drewN _ | exact ((unhide H).drewN _).drewN _ | exact (unhide H).setN _ _ (by omega) | exact ((unhide H).drewN _).setN _ _ (by omega) | exact ((unhide H).setN _ _ (by omega)).drewN _) (by first | exact unhide HS | exact (unhide HS).drewN _ | exact (unhide HS).mine ((Only.refl _ _).mine _ _) hb | exact (unhide HS).mine (((Only.refl _ _).drewN _).mine _ _) hb) hL (by omega)).mono ?_; rintro e wq ⟨v, rfl, hv, hO1⟩))
              go_ret2
              exact told_bad (unhide HO) (by decide) ((hOs.none.drewN _).trans hO1.none) (((unhide H).drewN _).keep hO1 (fun f => f) (fun _ _ f => f)) (hv.base hOs.size)
  · have HO : Hid (Pro.numO L len n = Pro.good (Pro.shortV (Pro.letAt L n)) (n + 1)) := by unfold Pro.numO; rw [if_pos hsh]; rfl
    have hlt : n < L.length := by
      by_cases hlt : n < L.length
      · exact hlt
      · rw [Pro.letAt_out (by omega)] at hsh; exact absurd hsh (by decide)
    go_enter Tryz.func124, Tryz.ntmps124
    go_wp2_with (first | (go_at_call 89; refine (peek_any b L (n) len dp _ (by first | exact unhide H | exact (unhide H).drewN _ | exact ((unhide H).drewN _).drewN _ | exact (unhide H).setN _ _ (by omega) | exact ((unhide H).drewN _).setN _ _ (by omega) | exact ((unhide H).setN _ _ (by omega)).drewN _) hL (by omega)).mono ?_; rintro e wq ⟨rfl, hwq⟩; have hwr := hwq.symm; subst hwr; clear hwq) | (go_at_call 130; refine (shortNumber_any _ _ (by omega)).mono ?_; rintro e w1 ⟨rfl, hOs⟩; have H := hide ((unhide H).keep hOs (fun f => f) (fun _ _ f => f)); have HS := hide ((unhide HS).keep hOs (fun _ _ f => f)); have c1 := (unhide H).c1; have f1 := (unhide H).f1))
    go_ret2
    exact told_good (unhide HO) (by rw [unhide HO]; rfl) (hOs.none.mine _ _) ((unhide H).setN _ _ (by omega))
end Go.Proofs.YtdhmllobgijggaaGreatDoor
namespace Go.Proofs.YtdhmllobgijggaaGreatDoor
open Go.RowKit

/-- The reader's own block, and all blocks from a number on. -/
def Own (b base : Nat) (k : Nat) : Prop := k = b ∨ base ≤ k
theorem Own.of {b base : Nat} {w w' : World} (k : Only (Mine b) w w') : Only (Own b base) w w' := k.mono (fun _ _ h => .inl h)
theorem Own.to {b : Nat} {w w' : World} (k : Only (Own b w.heap.size) w w') : Only (Mine b) w w' := k.mono (fun j hj h => by rcases h with h | h; exact h; omega)
/-- The reader and the sentinels as they stand, and what has turned since w0. -/
structure Trk (base : Nat) (w0 : World) (b : Nat) (L : List (Int × Int)) (n : Nat) (len dp : Int) (a : Nat → Addr) (w : World) : Prop where
  rd : RdAt w b L n len dp
  se : Sents w a
  on : Only (Own b base) w0 w
  hb : 10 ≤ b
  lt : b < base
  le : base ≤ w0.heap.size

section
variable {base : Nat} {w0 : World} {b : Nat} {L : List (Int × Int)} {n : Nat} {len dp : Int} {a : Nat → Addr} {w w' : World}
theorem Trk.start (h : RdAt w b L n len dp) (hS : Sents w a) (hb : 10 ≤ b) : Trk w.heap.size w b L n len dp a w := ⟨h, hS, Only.refl _ _, hb, h.lt, Nat.le_refl _⟩
theorem Trk.drewN (t : Trk base w0 b L n len dp a w) (q : Nat) : Trk base w0 b L n len dp a (w.drewN q) := ⟨t.rd.drewN q, t.se.drewN q, t.on.drewN q, t.hb, t.lt, t.le⟩
theorem Trk.setN (t : Trk base w0 b L n len dp a w) (m : Nat) (j : Int) (hj : j = (m : Int)) : Trk base w0 b L m len dp a (w.setCell ⟨b, 1, none⟩ (.int .i64 j)) := ⟨t.rd.setN m j hj, t.se.mine ((Only.refl _ _).mine _ _) t.hb, t.on.trans (Own.of ((Only.refl _ _).mine _ _)), t.hb, t.lt, t.le⟩
theorem Trk.calm (t : Trk base w0 b L n len dp a w) (k : Only (fun _ => False) w w') : Trk base w0 b L n len dp a w' := ⟨t.rd.keep k (fun f => f) (fun _ _ f => f), t.se.keep k (fun _ _ f => f), t.on.trans k.none, t.hb, t.lt, t.le⟩
theorem Trk.mine {m : Nat} (t : Trk base w0 b L n len dp a w) (k : Only (Mine b) w w') (h : RdAt w' b L m len dp) : Trk base w0 b L m len dp a w' := ⟨h, t.se.mine k t.hb, t.on.trans (Own.of k), t.hb, t.lt, t.le⟩
theorem Trk.c1 (t : Trk base w0 b L n len dp a w) : w.cell? ⟨b, 1, none⟩ = some (.int .i64 n) := t.rd.c1
theorem Trk.f1 (t : Trk base w0 b L n len dp a w) : w.frozen? ⟨b, 1, none⟩ = false := t.rd.f1
theorem Trk.good {o : Pro.Out} {yes yes' no : Value} {v : Int} (t : Trk w0.heap.size w0 b L n len dp a w) (ho : o = Pro.good v n) (hy : yes' = yes) : Tells b L len dp a w0 o yes no (.returned (.tuple #[yes', .nilIface])) w := told_good ho hy (Own.to t.on) t.rd
theorem Trk.bad {o : Pro.Out} {yes no v : Value} {k : Nat} {p : Int} (t : Trk w0.heap.size w0 b L n len dp a w) (ho : o = Pro.bad k p n) (hk : k ≠ 0) (hF : FaultAt w w0.heap.size v (sentV a k) p) : Tells b L len dp a w0 o yes no (.returned (.tuple #[no, v])) w := told_bad ho hk (Own.to t.on) t.rd hF
theorem Trk.yes {o : Pro.Out} {yes no : Value} (t : Trk w0.heap.size w0 b L o.n len dp a w) (hk : o.k = 0) : Tells b L len dp a w0 o yes no (.returned (.tuple #[yes, .nilIface])) w := Tells.yes hk (Own.to t.on) t.rd
theorem Trk.no {o : Pro.Out} {yes no v : Value} (t : Trk w0.heap.size w0 b L o.n len dp a w) (hk : o.k ≠ 0) (hv : FaultAt w w0.heap.size v (sentV a o.k) o.p) : Tells b L len dp a w0 o yes no (.returned (.tuple #[no, v])) w := Tells.no hk (Own.to t.on) t.rd hv

theorem peek_t (t : Trk base w0 b L n len dp a w) (hL : L.length ≤ 400) (hn : n ≤ 1000) :
    Calls Tryz.prog 89 #[.pointer (some ⟨b, 0, none⟩)] w fun x w' => x = .returned (.int .i32 (Pro.letAt L n)) ∧ w' = w := peek_any b L n len dp w t.rd hL hn
theorem ahead_t (k : Nat) (t : Trk base w0 b L n len dp a w) (hL : L.length ≤ 400) (hn : n ≤ 1000) (hk : k ≤ 1000) :
    Calls Tryz.prog 91 #[.pointer (some ⟨b, 0, none⟩), .int .i64 k] w fun x w' => x = .returned (.int .i32 (Pro.letAt L (n + k))) ∧ w' = w := ahead_any b L n len dp k w t.rd hL hn hk
theorem place_t (t : Trk base w0 b L n len dp a w) (hL : L.length ≤ 400) (hn : n ≤ L.length) :
    Calls Tryz.prog 72 #[.pointer (some ⟨b, 0, none⟩)] w fun x w' => x = .returned (.int .i64 (Pro.placeAt L len n)) ∧ ∃ q, w' = w.drewN q := place_any b L n len dp w t.rd hL hn
theorem atEnd_t (t : Trk base w0 b L n len dp a w) :
    Calls Tryz.prog 49 #[.pointer (some ⟨b, 0, none⟩)] w fun x w' => x = .returned (.bool ((n : Int) == (L.length : Int))) ∧ ∃ q, w' = w.drewN q := atEnd_any b L n len dp w t.rd
theorem takeno_t (word : ByteArray) (t : Trk base w0 b L n len dp a w) (hL : L.length ≤ 400) (hn : n ≤ 1000) (hw : word.size ≤ 10) (hm : Pro.matchB L n word = false) :
    Calls Tryz.prog 71 #[.pointer (some ⟨b, 0, none⟩), .string word] w fun x w' => x = .returned (.bool false) ∧ ∃ q, w' = w.drewN q := take_no b L n len dp word w t.rd hL hn hw hm
theorem take_t (word : ByteArray) (t : Trk base w0 b L n len dp a w) (hL : L.length ≤ 400) (hn : n ≤ 1000) (hw : word.size ≤ 10) (hm : Pro.matchB L n word = true) :
    Calls Tryz.prog 71 #[.pointer (some ⟨b, 0, none⟩), .string word] w fun x w' => x = .returned (.bool true) ∧ Trk base w0 b L (n + word.size) len dp a w' :=
  (take_yes b L n len dp word w t.rd hL hn hw hm).mono (by rintro e w1 ⟨rfl, h1, h2⟩; exact ⟨rfl, t.mine h2 h1⟩)
theorem taken_t (word : ByteArray) (t : Trk base w0 b L n len dp a w) (hL : L.length ≤ 400) (hn : n ≤ 1000) (hw : word.size ≤ 10) :
    Calls Tryz.prog 71 #[.pointer (some ⟨b, 0, none⟩), .string word] w fun x w' => x = .returned (.bool (Pro.matchB L n word)) ∧ Trk base w0 b L (Pro.behind L n word) len dp a w' :=
  (take_any b L n len dp word w t.rd hL hn hw).mono (by rintro e w1 ⟨rfl, h1, h2⟩; exact ⟨rfl, t.mine h2 h1⟩)
/-- Where the reader stands, read from memory. -/
def rdN (w : World) (b : Nat) : Nat := match w.cell? ⟨b, 1, none⟩ with
  | some v => (intOf v).toNat
  | none => 0
theorem Trk.rdN (t : Trk base w0 b L n len dp a w) : rdN w b = n := by
  unfold Go.Proofs.YtdhmllobgijggaaGreatDoor.rdN; rw [t.c1]; simp [intOf]
theorem wrong_t (t : Trk base w0 b L n len dp a w) (hL : L.length ≤ 400) (hn : n ≤ L.length) :
    Calls Tryz.prog 50 #[.pointer (some ⟨b, 0, none⟩)] w fun x w' => ∃ v, x = .returned v ∧ FaultAt w' w0.heap.size v (sentV a 3) (Pro.placeAt L len n) ∧ Trk base w0 b L n len dp a w' :=
  (wrong_at b L n len dp a w t.rd t.se hL hn).mono (by rintro e w1 ⟨v, rfl, hv, hO⟩; exact ⟨v, rfl, hv.base t.on.size, t.calm hO⟩)
theorem contains_t (s : ByteArray) (r : Int) (t : Trk base w0 b L n len dp a w) (h1 : r ≤ 1114111) (hs : ∀ b ∈ s.data.toList, b.toNat < 128) (hz : s.size ≤ 20) :
    Calls Tryz.prog 123 #[.string s, .int .i32 r] w fun e w' => e = .returned (.bool (Pro.inB s r)) ∧ Trk base w0 b L n len dp a w' :=
  (contains_any s r w h1 hs hz).mono (by rintro e w1 ⟨rfl, hO⟩; exact ⟨rfl, t.calm hO⟩)
theorem new_t (T : TypeId) (k : Nat) (p : Int) (x : Value) (hx : .iface T x = sentV a k) (t : Trk base w0 b L n len dp a w) :
    Calls Tryz.prog 46 #[.iface T x, .int .i64 p] w fun e w' => ∃ v, e = .returned v ∧ FaultAt w' w0.heap.size v (sentV a k) p ∧ Trk base w0 b L n len dp a w' :=
  (new_any T x p w).mono (by rintro e w1 ⟨v, rfl, hv, hO⟩; rw [hx] at hv; exact ⟨v, rfl, hv.base t.on.size, t.calm hO⟩)
/-- What a method tells, followed on. -/
theorem tells_t {f : FuncId} {args : Array Value} {o : Pro.Out} {yes no : Value} (t : Trk base w0 b L n len dp a w) (h : Calls Tryz.prog f args w (Tells b L len dp a w o yes no)) :
    Calls Tryz.prog f args w fun x w' => Trk base w0 b L o.n len dp a w' ∧ ((o.k = 0 ∧ x = .returned (.tuple #[yes, .nilIface])) ∨ (o.k ≠ 0 ∧ ∃ v, x = .returned (.tuple #[no, v]) ∧ FaultAt w' w0.heap.size v (sentV a o.k) o.p)) :=
  h.mono (by
    rintro x w1 ⟨hO, hR, hT⟩
    refine ⟨t.mine hO hR, ?_⟩
    rcases hT with hT | ⟨hk, v, hx, hv⟩
    · exact .inl hT
    · exact .inr ⟨hk, v, hx, hv.base t.on.size⟩)
end
end Go.Proofs.YtdhmllobgijggaaGreatDoor
namespace Go.Proofs.YtdhmllobgijggaaGreatDoor
open Go.RowKit

/-- A character's part, or that of an escape of many, as an interface value. -/
def charV (c : Int) : Value := .iface 113 (.int .i32 c)
def manyV (c : Int) : Value := .iface 114 (.int .i32 c)
def oneV (m : Bool) (c : Int) : Value := match m with
  | true => manyV c
  | false => charV c

set_option maxHeartbeats 2000000 in
theorem pescape_any (b : Nat) (L : List (Int × Int)) (n : Nat) (len dp : Int) (a : Nat → Addr) (w : World) (h : RdAt w b L n len dp) (hS : Sents w a) (hb : 10 ≤ b) (hL : L.length ≤ 400) (hn : n < L.length) (hF : Pro.Fit L) :
    Calls Tryz.prog 116 #[.pointer (some ⟨b, 0, none⟩)] w (Tells b L len dp a w (Pro.escO L len n) (oneV (Pro.setB (Pro.letAt L (n + 1))) (Pro.escO L len n).v) .nilIface) := by
  have T := hide (Trk.start h hS hb)
  have c1 := h.c1
  have f1 := h.f1
  clear h hS
  have hfit := hF (n + 1)
  cases hset : Pro.setB (Pro.letAt L (n + 1))
  · have hset' : Pro.inB { data := #[100, 68, 119, 87, 115, 83] } (Pro.letAt L (n + 1)) = false := hset
    cases hback : Pro.backB (Pro.letAt L (n + 1))
    · have HO : Hid (Pro.escO L len n = Pro.numO L len (n + 1)) := by unfold Pro.escO; rw [if_neg (by simp [hset]), if_neg (by simp [hback])]; rfl
      have hback' : Pro.inB { data := #[49, 50, 51, 52, 53, 54, 55, 56, 57, 107, 112, 80] } (Pro.letAt L (n + 1)) = false := hback
      by_cases hk : (Pro.numO L len (n + 1)).k = 0
      · go_enter Tryz.func116, Tryz.ntmps116
        go_wp2_with (first | (go_at_call 72; refine (place_t (n := n) (by first | exact unhide T | exact (unhide T).drewN _ | exact ((unhide T).drewN _).drewN _ | exact (unhide T).setN _ _ (by omega) | exact ((unhide T).drewN _).setN _ _ (by omega) | exact ((unhide T).setN _ _ (by omega)).drewN _ | exact (((unhide T).drewN _).setN _ _ (by omega)).drewN _) hL (by omega)).mono ?_; rintro e wq ⟨rfl, qq, rfl⟩) | (go_at_call 89; refine (peek_t (n := n + 1) (by first | exact unhide T | exact (unhide T).drewN _ | exact ((unhide T).drewN _).drewN _ | exact (unhide T).setN _ _ (by omega) | exact ((unhide T).drewN _).setN _ _ (by omega) | exact ((unhide T).setN _ _ (by omega)).drewN _ | exact (((unhide T).drewN _).setN _ _ (by omega)).drewN _) hL (by omega)).mono ?_; rintro e wq ⟨rfl, hwq⟩; have hwr := hwq.symm; subst hwr; clear hwq) | (go_at_call 123; refine (contains_t (n := n + 1) _ _ (by first | exact unhide T | exact (unhide T).drewN _ | exact ((unhide T).drewN _).drewN _ | exact (unhide T).setN _ _ (by omega) | exact ((unhide T).drewN _).setN _ _ (by omega) | exact ((unhide T).setN _ _ (by omega)).drewN _ | exact (((unhide T).drewN _).setN _ _ (by omega)).drewN _) (by omega) (by decide) (by decide)).mono ?_; rintro e wq ⟨rfl, tq⟩; have T := hide tq; have c1 := tq.c1; have f1 := tq.f1) | (go_at_call 124; refine (tells_t (n := n + 1) (by first | exact unhide T | exact (unhide T).drewN _ | exact ((unhide T).drewN _).drewN _ | exact (unhide T).setN _ _ (by omega) | exact ((unhide T).drewN _).setN _ _ (by omega) | exact ((unhide T).setN _ _ (by omega)).drewN _ | exact (((unhide T).drewN _).setN _ _ (by omega)).drewN _) (escapedNumber_any b L (n + 1) len dp a _ (Trk.rd (n := n + 1) (by first | exact unhide T | exact (unhide T).drewN _ | exact ((unhide T).drewN _).drewN _ | exact (unhide T).setN _ _ (by omega) | exact ((unhide T).drewN _).setN _ _ (by omega) | exact ((unhide T).setN _ _ (by omega)).drewN _ | exact (((unhide T).drewN _).setN _ _ (by omega)).drewN _)) (Trk.se (n := n + 1) (by first | exact unhide T | exact (unhide T).drewN _ | exact ((unhide T).drewN _).drewN _ | exact (unhide T).setN _ _ (by omega) | exact ((unhide T).drewN _).setN _ _ (by omega) | exact ((unhide T).setN _ _ (by omega)).drewN _ | exact (((unhide T).drewN _).setN _ _ (by omega)).drewN _)) hb hL (by omega) hF)).mono ?_; rintro e wq ⟨tq, hT⟩; obtain rfl := told_yes hT hk; clear hT; have T := hide tq; have c1 := tq.c1; have f1 := tq.f1))
        go_ret2
        rw [unhide HO]
        exact (unhide T).yes hk
      · go_enter Tryz.func116, Tryz.ntmps116
        go_wp2_with (first | (go_at_call 72; refine (place_t (n := n) (by first | exact unhide T | exact (unhide T).drewN _ | exact ((unhide T).drewN _).drewN _ | exact (unhide T).setN _ _ (by omega) | exact ((unhide T).drewN _).setN _ _ (by omega) | exact ((unhide T).setN _ _ (by omega)).drewN _ | exact (((unhide T).drewN _).setN _ _ (by omega)).drewN _) hL (by omega)).mono ?_; rintro e wq ⟨rfl, qq, rfl⟩) | (go_at_call 89; refine (peek_t (n := n + 1) (by first | exact unhide T | exact (unhide T).drewN _ | exact ((unhide T).drewN _).drewN _ | exact (unhide T).setN _ _ (by omega) | exact ((unhide T).drewN _).setN _ _ (by omega) | exact ((unhide T).setN _ _ (by omega)).drewN _ | exact (((unhide T).drewN _).setN _ _ (by omega)).drewN _) hL (by omega)).mono ?_; rintro e wq ⟨rfl, hwq⟩; have hwr := hwq.symm; subst hwr; clear hwq) | (go_at_call 123; refine (contains_t (n := n + 1) _ _ (by first | exact unhide T | exact (unhide T).drewN _ | exact ((unhide T).drewN _).drewN _ | exact (unhide T).setN _ _ (by omega) | exact ((unhide T).drewN _).setN _ _ (by omega) | exact ((unhide T).setN _ _ (by omega)).drewN _ | exact (((unhide T).drewN _).setN _ _ (by omega)).drewN _) (by omega) (by decide) (by decide)).mono ?_; rintro e wq ⟨rfl, tq⟩; have T := hide tq; have c1 := tq.c1; have f1 := tq.f1) | (go_at_call 124; refine (tells_t (n := n + 1) (by first | exact unhide T | exact (unhide T).drewN _ | exact ((unhide T).drewN _).drewN _ | exact (unhide T).setN _ _ (by omega) | exact ((unhide T).drewN _).setN _ _ (by omega) | exact ((unhide T).setN _ _ (by omega)).drewN _ | exact (((unhide T).drewN _).setN _ _ (by omega)).drewN _) (escapedNumber_any b L (n + 1) len dp a _ (Trk.rd (n := n + 1) (by first | exact unhide T | exact (unhide T).drewN _ | exact ((unhide T).drewN _).drewN _ | exact (unhide T).setN _ _ (by omega) | exact ((unhide T).drewN _).setN _ _ (by omega) | exact ((unhide T).setN _ _ (by omega)).drewN _ | exact (((unhide T).drewN _).setN _ _ (by omega)).drewN _)) (Trk.se (n := n + 1) (by first | exact unhide T | exact (unhide T).drewN _ | exact ((unhide T).drewN _).drewN _ | exact (unhide T).setN _ _ (by omega) | exact ((unhide T).drewN _).setN _ _ (by omega) | exact ((unhide T).setN _ _ (by omega)).drewN _ | exact (((unhide T).drewN _).setN _ _ (by omega)).drewN _)) hb hL (by omega) hF)).mono ?_; rintro e wq ⟨tq, hT⟩; obtain ⟨v, rfl, hv⟩ := told_no hT hk; obtain ⟨gv, hgv⟩ := hv.form; subst hgv; clear hT; have T := hide tq; have c1 := tq.c1; have f1 := tq.f1))
        go_ret2
        rw [unhide HO]
        exact (unhide T).no hk hv
    · have HO : Hid (Pro.escO L len n = Pro.bad 6 (Pro.placeAt L len n) (n + 1)) := by unfold Pro.escO; rw [if_neg (by simp [hset]), if_pos hback]; rfl
      have hback' : Pro.inB { data := #[49, 50, 51, 52, 53, 54, 55, 56, 57, 107, 112, 80] } (Pro.letAt L (n + 1)) = true := hback
      have hs6 := (unhide T).se.s6
      go_enter Tryz.func116, Tryz.ntmps116
      go_wp2_with (first | (go_at_call 72; refine (place_t (n := n) (by first | exact unhide T | exact (unhide T).drewN _ | exact ((unhide T).drewN _).drewN _ | exact (unhide T).setN _ _ (by omega) | exact ((unhide T).drewN _).setN _ _ (by omega) | exact ((unhide T).setN _ _ (by omega)).drewN _ | exact (((unhide T).drewN _).setN _ _ (by omega)).drewN _) hL (by omega)).mono ?_; rintro e wq ⟨rfl, qq, rfl⟩) | (go_at_call 89; refine (peek_t (n := n + 1) (by first | exact unhide T | exact (unhide T).drewN _ | exact ((unhide T).drewN _).drewN _ | exact (unhide T).setN _ _ (by omega) | exact ((unhide T).drewN _).setN _ _ (by omega) | exact ((unhide T).setN _ _ (by omega)).drewN _ | exact (((unhide T).drewN _).setN _ _ (by omega)).drewN _) hL (by omega)).mono ?_; rintro e wq ⟨rfl, hwq⟩; have hwr := hwq.symm; subst hwr; clear hwq) | (go_at_call 123; refine (contains_t (n := n + 1) _ _ (by first | exact unhide T | exact (unhide T).drewN _ | exact ((unhide T).drewN _).drewN _ | exact (unhide T).setN _ _ (by omega) | exact ((unhide T).drewN _).setN _ _ (by omega) | exact ((unhide T).setN _ _ (by omega)).drewN _ | exact (((unhide T).drewN _).setN _ _ (by omega)).drewN _) (by omega) (by decide) (by decide)).mono ?_; rintro e wq ⟨rfl, tq⟩; have T := hide tq; have c1 := tq.c1; have f1 := tq.f1); (have hs6 := (unhide T).se.s6) | (go_at_call 46; refine (new_t (n := n + 1) _ 6 _ _ rfl (by first | exact unhide T | exact (unhide T).drewN _ | exact ((unhide T).drewN _).drewN _ | exact (unhide T).setN _ _ (by omega) | exact ((unhide T).drewN _).setN _ _ (by omega) | exact ((unhide T).setN _ _ (by omega)).drewN _ | exact (((unhide T).drewN _).setN _ _ (by omega)).drewN _)).mono ?_; rintro e wq ⟨v, rfl, hv, tq⟩; have T := hide tq; have c1 := tq.c1; have f1 := tq.f1))
      go_ret2
      exact (unhide T).bad (unhide HO) (by decide) hv
  · have HO : Hid (Pro.escO L len n = Pro.good (Pro.letAt L (n + 1)) (n + 2)) := by unfold Pro.escO; rw [if_pos hset]; rfl
    have hset' : Pro.inB { data := #[100, 68, 119, 87, 115, 83] } (Pro.letAt L (n + 1)) = true := hset
    go_enter Tryz.func116, Tryz.ntmps116
    go_wp2_with (first | (go_at_call 72; refine (place_t (n := n) (by first | exact unhide T | exact (unhide T).drewN _ | exact ((unhide T).drewN _).drewN _ | exact (unhide T).setN _ _ (by omega) | exact ((unhide T).drewN _).setN _ _ (by omega) | exact ((unhide T).setN _ _ (by omega)).drewN _ | exact (((unhide T).drewN _).setN _ _ (by omega)).drewN _) hL (by omega)).mono ?_; rintro e wq ⟨rfl, qq, rfl⟩) | (go_at_call 89; refine (peek_t (n := n + 1) (by first | exact unhide T | exact (unhide T).drewN _ | exact ((unhide T).drewN _).drewN _ | exact (unhide T).setN _ _ (by omega) | exact ((unhide T).drewN _).setN _ _ (by omega) | exact ((unhide T).setN _ _ (by omega)).drewN _ | exact (((unhide T).drewN _).setN _ _ (by omega)).drewN _) hL (by omega)).mono ?_; rintro e wq ⟨rfl, hwq⟩; have hwr := hwq.symm; subst hwr; clear hwq) | (go_at_call 123; refine (contains_t (n := n + 1) _ _ (by first | exact unhide T | exact (unhide T).drewN _ | exact ((unhide T).drewN _).drewN _ | exact (unhide T).setN _ _ (by omega) | exact ((unhide T).drewN _).setN _ _ (by omega) | exact ((unhide T).setN _ _ (by omega)).drewN _ | exact (((unhide T).drewN _).setN _ _ (by omega)).drewN _) (by omega) (by decide) (by decide)).mono ?_; rintro e wq ⟨rfl, tq⟩; have T := hide tq; have c1 := tq.c1; have f1 := tq.f1))
    go_ret2
    exact ((unhide T).setN (n + 2) _ (by omega)).good (unhide HO) (by rw [unhide HO]; rfl)
end Go.Proofs.YtdhmllobgijggaaGreatDoor
namespace Go.Proofs.YtdhmllobgijggaaGreatDoor
open Go.RowKit

namespace Pro
theorem setB_b : setB 98 = false := by decide
theorem setB_d : setB 45 = false := by decide
theorem many_no {L : List (Int × Int)} {n : Nat} (h : letAt L n ≠ 92) : many L n = false := by unfold many; simp [h]
theorem many_esc {L : List (Int × Int)} {n : Nat} (h : letAt L n = 92) : many L n = setB (letAt L (n + 1)) := by unfold many; simp [h]
end Pro

set_option maxHeartbeats 2000000 in
theorem pmember_any (b : Nat) (L : List (Int × Int)) (n : Nat) (len dp : Int) (a : Nat → Addr) (w : World) (h : RdAt w b L n len dp) (hS : Sents w a) (hb : 10 ≤ b) (hL : L.length ≤ 400) (hn : n < L.length) (hF : Pro.Fit L) :
    Calls Tryz.prog 126 #[.pointer (some ⟨b, 0, none⟩)] w (Tells b L len dp a w (Pro.memberO L len n) (oneV (Pro.many L n) (Pro.memberO L len n).v) .nilIface) := by
  have T := hide (Trk.start h hS hb)
  have c1 := h.c1
  have f1 := h.f1
  clear h hS
  have hfit := hF n
  by_cases he : Pro.letAt L n = 92
  · by_cases h1 : Pro.letAt L (n + 1) = 98
    · have HO : Hid (Pro.memberO L len n = Pro.good 8 (n + 2)) := by unfold Pro.memberO; rw [if_pos ⟨he, h1⟩]; rfl
      have HM : Hid (Pro.many L n = false) := by rw [Pro.many_esc he, h1]; exact Pro.setB_b
      have m1 : Pro.matchB L n { data := #[92, 98] } = true := by rw [Pro.matchB_two L n 92 98 92 98 rfl rfl]; simp [he, h1]
      clear he h1
      go_enter Tryz.func126, Tryz.ntmps126
      go_wp2_with (go_at_call 71; refine (take_t (n := n) _ (by first | exact unhide T | exact (unhide T).drewN _ | exact ((unhide T).drewN _).drewN _ | exact (unhide T).setN _ _ (by omega) | exact ((unhide T).drewN _).setN _ _ (by omega) | exact ((unhide T).setN _ _ (by omega)).drewN _ | exact (((unhide T).drewN _).setN _ _ (by omega)).drewN _) hL (by omega) (by decide) (by assumption)).mono ?_; rintro e wq ⟨rfl, tq⟩; have tq : Trk _ _ b L ((n) + 2) len dp a wq := tq; have T := hide tq; have c1 := tq.c1; have f1 := tq.f1)
      go_ret2
      exact (unhide T).good (unhide HO) (by rw [unhide HO, unhide HM]; rfl)
    · have m1 : Pro.matchB L n { data := #[92, 98] } = false := by rw [Pro.matchB_two L n 92 98 92 98 rfl rfl]; simp [he, h1]
      by_cases h2 : Pro.letAt L (n + 1) = 45
      · have HO : Hid (Pro.memberO L len n = Pro.good 45 (n + 2)) := by unfold Pro.memberO; rw [if_neg (fun hh => h1 hh.2), if_pos ⟨he, h2⟩]; rfl
        have HM : Hid (Pro.many L n = false) := by rw [Pro.many_esc he, h2]; exact Pro.setB_d
        have m2 : Pro.matchB L n { data := #[92, 45] } = true := by rw [Pro.matchB_two L n 92 45 92 45 rfl rfl]; simp [he, h2]
        clear he h1 h2
        go_enter Tryz.func126, Tryz.ntmps126
        go_wp2_with (first | (go_at_call 71; refine (takeno_t (n := n) _ (by first | exact unhide T | exact (unhide T).drewN _ | exact ((unhide T).drewN _).drewN _ | exact (unhide T).setN _ _ (by omega) | exact ((unhide T).drewN _).setN _ _ (by omega) | exact ((unhide T).setN _ _ (by omega)).drewN _ | exact (((unhide T).drewN _).setN _ _ (by omega)).drewN _) hL (by omega) (by decide) (by assumption)).mono ?_; rintro e wq ⟨rfl, qq, rfl⟩) | (go_at_call 71; refine (take_t (n := n) _ (by first | exact unhide T | exact (unhide T).drewN _ | exact ((unhide T).drewN _).drewN _ | exact (unhide T).setN _ _ (by omega) | exact ((unhide T).drewN _).setN _ _ (by omega) | exact ((unhide T).setN _ _ (by omega)).drewN _ | exact (((unhide T).drewN _).setN _ _ (by omega)).drewN _) hL (by omega) (by decide) (by assumption)).mono ?_; rintro e wq ⟨rfl, tq⟩; have tq : Trk _ _ b L ((n) + 2) len dp a wq := tq; have T := hide tq; have c1 := tq.c1; have f1 := tq.f1))
        go_ret2
        exact (unhide T).good (unhide HO) (by rw [unhide HO, unhide HM]; rfl)
      · have m2 : Pro.matchB L n { data := #[92, 45] } = false := by rw [Pro.matchB_two L n 92 45 92 45 rfl rfl]; simp [he, h2]
        have HO : Hid (Pro.memberO L len n = Pro.escO L len n) := by unfold Pro.memberO; rw [if_neg (fun hh => h1 hh.2), if_neg (fun hh => h2 hh.2), if_pos he]; rfl
        have HM : Hid (Pro.many L n = Pro.setB (Pro.letAt L (n + 1))) := Pro.many_esc he
        have he' : (Pro.letAt L n == 92) = true := by simp [he]
        clear he h1 h2
        by_cases hk : (Pro.escO L len n).k = 0
        · go_enter Tryz.func126, Tryz.ntmps126
          go_wp2_with (first | (go_at_call 71; refine (takeno_t (n := n) _ (by first | exact unhide T | exact (unhide T).drewN _ | exact ((unhide T).drewN _).drewN _ | exact (unhide T).setN _ _ (by omega) | exact ((unhide T).drewN _).setN _ _ (by omega) | exact ((unhide T).setN _ _ (by omega)).drewN _ | exact (((unhide T).drewN _).setN _ _ (by omega)).drewN _) hL (by omega) (by decide) (by assumption)).mono ?_; rintro e wq ⟨rfl, qq, rfl⟩) | (go_at_call 89; refine (peek_t (n := n) (by first | exact unhide T | exact (unhide T).drewN _ | exact ((unhide T).drewN _).drewN _ | exact (unhide T).setN _ _ (by omega) | exact ((unhide T).drewN _).setN _ _ (by omega) | exact ((unhide T).setN _ _ (by omega)).drewN _ | exact (((unhide T).drewN _).setN _ _ (by omega)).drewN _) hL (by omega)).mono ?_; rintro e wq ⟨rfl, hwq⟩; have hwr := hwq.symm; subst hwr; clear hwq) | (go_at_call 116; refine (tells_t (n := n) (by first | exact unhide T | exact (unhide T).drewN _ | exact ((unhide T).drewN _).drewN _ | exact (unhide T).setN _ _ (by omega) | exact ((unhide T).drewN _).setN _ _ (by omega) | exact ((unhide T).setN _ _ (by omega)).drewN _ | exact (((unhide T).drewN _).setN _ _ (by omega)).drewN _) (pescape_any b L n len dp a _ (Trk.rd (n := n) (by first | exact unhide T | exact (unhide T).drewN _ | exact ((unhide T).drewN _).drewN _ | exact (unhide T).setN _ _ (by omega) | exact ((unhide T).drewN _).setN _ _ (by omega) | exact ((unhide T).setN _ _ (by omega)).drewN _ | exact (((unhide T).drewN _).setN _ _ (by omega)).drewN _)) (Trk.se (n := n) (by first | exact unhide T | exact (unhide T).drewN _ | exact ((unhide T).drewN _).drewN _ | exact (unhide T).setN _ _ (by omega) | exact ((unhide T).drewN _).setN _ _ (by omega) | exact ((unhide T).setN _ _ (by omega)).drewN _ | exact (((unhide T).drewN _).setN _ _ (by omega)).drewN _)) hb hL (by omega) hF)).mono ?_; rintro e wq ⟨tq, hT⟩; obtain rfl := told_yes hT hk; clear hT; have T := hide tq; have c1 := tq.c1; have f1 := tq.f1))
          go_ret2
          rw [unhide HO, unhide HM]
          exact (unhide T).yes hk
        · go_enter Tryz.func126, Tryz.ntmps126
          go_wp2_with (first | (go_at_call 71; refine (takeno_t (n := n) _ (by first | exact unhide T | exact (unhide T).drewN _ | exact ((unhide T).drewN _).drewN _ | exact (unhide T).setN _ _ (by omega) | exact ((unhide T).drewN _).setN _ _ (by omega) | exact ((unhide T).setN _ _ (by omega)).drewN _ | exact (((unhide T).drewN _).setN _ _ (by omega)).drewN _) hL (by omega) (by decide) (by assumption)).mono ?_; rintro e wq ⟨rfl, qq, rfl⟩) | (go_at_call 89; refine (peek_t (n := n) (by first | exact unhide T | exact (unhide T).drewN _ | exact ((unhide T).drewN _).drewN _ | exact (unhide T).setN _ _ (by omega) | exact ((unhide T).drewN _).setN _ _ (by omega) | exact ((unhide T).setN _ _ (by omega)).drewN _ | exact (((unhide T).drewN _).setN _ _ (by omega)).drewN _) hL (by omega)).mono ?_; rintro e wq ⟨rfl, hwq⟩; have hwr := hwq.symm; subst hwr; clear hwq) | (go_at_call 116; refine (tells_t (n := n) (by first | exact unhide T | exact (unhide T).drewN _ | exact ((unhide T).drewN _).drewN _ | exact (unhide T).setN _ _ (by omega) | exact ((unhide T).drewN _).setN _ _ (by omega) | exact ((unhide T).setN _ _ (by omega)).drewN _ | exact (((unhide T).drewN _).setN _ _ (by omega)).drewN _) (pescape_any b L n len dp a _ (Trk.rd (n := n) (by first | exact unhide T | exact (unhide T).drewN _ | exact ((unhide T).drewN _).drewN _ | exact (unhide T).setN _ _ (by omega) | exact ((unhide T).drewN _).setN _ _ (by omega) | exact ((unhide T).setN _ _ (by omega)).drewN _ | exact (((unhide T).drewN _).setN _ _ (by omega)).drewN _)) (Trk.se (n := n) (by first | exact unhide T | exact (unhide T).drewN _ | exact ((unhide T).drewN _).drewN _ | exact (unhide T).setN _ _ (by omega) | exact ((unhide T).drewN _).setN _ _ (by omega) | exact ((unhide T).setN _ _ (by omega)).drewN _ | exact (((unhide T).drewN _).setN _ _ (by omega)).drewN _)) hb hL (by omega) hF)).mono ?_; rintro e wq ⟨tq, hT⟩; obtain ⟨v, rfl, hv⟩ := told_no hT hk; obtain ⟨gv, hgv⟩ := hv.form; subst hgv; clear hT; have T := hide tq; have c1 := tq.c1; have f1 := tq.f1))
          go_ret2
          rw [unhide HO, unhide HM]
          exact (unhide T).no hk hv
  · have m1 : Pro.matchB L n { data := #[92, 98] } = false := by rw [Pro.matchB_two L n 92 98 92 98 rfl rfl]; simp [he]
    have m2 : Pro.matchB L n { data := #[92, 45] } = false := by rw [Pro.matchB_two L n 92 45 92 45 rfl rfl]; simp [he]
    have HO : Hid (Pro.memberO L len n = Pro.good (Pro.letAt L n) (n + 1)) := by unfold Pro.memberO; rw [if_neg (fun hh => he hh.1), if_neg (fun hh => he hh.1), if_neg he]; rfl
    have HM : Hid (Pro.many L n = false) := Pro.many_no he
    have he' : (Pro.letAt L n == 92) = false := by simp [he]
    clear he
    go_enter Tryz.func126, Tryz.ntmps126
    go_wp2_with (first | (go_at_call 71; refine (takeno_t (n := n) _ (by first | exact unhide T | exact (unhide T).drewN _ | exact ((unhide T).drewN _).drewN _ | exact (unhide T).setN _ _ (by omega) | exact ((unhide T).drewN _).setN _ _ (by omega) | exact ((unhide T).setN _ _ (by omega)).drewN _ | exact (((unhide T).drewN _).setN _ _ (by omega)).drewN _) hL (by omega) (by decide) (by assumption)).mono ?_; rintro e wq ⟨rfl, qq, rfl⟩) | (go_at_call 89; refine (peek_t (n := n) (by first | exact unhide T | exact (unhide T).drewN _ | exact ((unhide T).drewN _).drewN _ | exact (unhide T).setN _ _ (by omega) | exact ((unhide T).drewN _).setN _ _ (by omega) | exact ((unhide T).setN _ _ (by omega)).drewN _ | exact (((unhide T).drewN _).setN _ _ (by omega)).drewN _) hL (by omega)).mono ?_; rintro e wq ⟨rfl, hwq⟩; have hwr := hwq.symm; subst hwr; clear hwq))
    go_ret2
    exact (Trk.setN (by first | exact unhide T | exact (unhide T).drewN _ | exact ((unhide T).drewN _).drewN _ | exact (unhide T).setN _ _ (by omega) | exact ((unhide T).drewN _).setN _ _ (by omega) | exact ((unhide T).setN _ _ (by omega)).drewN _ | exact (((unhide T).drewN _).setN _ _ (by omega)).drewN _) (n + 1) _ (by omega)).good (unhide HO) (by rw [unhide HO, unhide HM]; rfl)

set_option maxHeartbeats 2000000 in
theorem isRange_any (b : Nat) (L : List (Int × Int)) (n : Nat) (len dp : Int) (a : Nat → Addr) (base : Nat) (w0 w : World) (t : Trk base w0 b L n len dp a w) (hL : L.length ≤ 400) (hn : n ≤ 500) :
    Calls Tryz.prog 127 #[.pointer (some ⟨b, 0, none⟩)] w fun x w' => x = .returned (.bool (Pro.dashB L n)) ∧ w' = w := by
  have T := hide t
  clear t
  by_cases h1 : Pro.letAt L n = 45
  · by_cases h2 : Pro.letAt L (n + 1) = 93
    · have HD : Hid (Pro.dashB L n = false) := by unfold Pro.dashB; simp [h1, h2]; trivial
      go_enter Tryz.func127, Tryz.ntmps127
      go_wp2_with (first | (go_at_call 89; refine (peek_t (n := n) (by first | exact unhide T | exact (unhide T).drewN _ | exact ((unhide T).drewN _).drewN _ | exact (unhide T).setN _ _ (by omega) | exact ((unhide T).drewN _).setN _ _ (by omega) | exact ((unhide T).setN _ _ (by omega)).drewN _ | exact (((unhide T).drewN _).setN _ _ (by omega)).drewN _) hL (by omega)).mono ?_; rintro e wq ⟨rfl, hwq⟩; have hwr := hwq.symm; subst hwr; clear hwq) | (go_at_call 91; refine (ahead_t (n := n) 1 (by first | exact unhide T | exact (unhide T).drewN _ | exact ((unhide T).drewN _).drewN _ | exact (unhide T).setN _ _ (by omega) | exact ((unhide T).drewN _).setN _ _ (by omega) | exact ((unhide T).setN _ _ (by omega)).drewN _ | exact (((unhide T).drewN _).setN _ _ (by omega)).drewN _) hL (by omega) (by omega)).mono ?_; rintro e wq ⟨rfl, hwq⟩; have hwr := hwq.symm; subst hwr; clear hwq))
      go_ret
      rw [unhide HD]
      exact ⟨rfl, rfl⟩
    · by_cases h3 : Pro.letAt L (n + 1) = -1
      · have HD : Hid (Pro.dashB L n = false) := by unfold Pro.dashB; simp [h1, h3]; trivial
        go_enter Tryz.func127, Tryz.ntmps127
        go_wp2_with (first | (go_at_call 89; refine (peek_t (n := n) (by first | exact unhide T | exact (unhide T).drewN _ | exact ((unhide T).drewN _).drewN _ | exact (unhide T).setN _ _ (by omega) | exact ((unhide T).drewN _).setN _ _ (by omega) | exact ((unhide T).setN _ _ (by omega)).drewN _ | exact (((unhide T).drewN _).setN _ _ (by omega)).drewN _) hL (by omega)).mono ?_; rintro e wq ⟨rfl, hwq⟩; have hwr := hwq.symm; subst hwr; clear hwq) | (go_at_call 91; refine (ahead_t (n := n) 1 (by first | exact unhide T | exact (unhide T).drewN _ | exact ((unhide T).drewN _).drewN _ | exact (unhide T).setN _ _ (by omega) | exact ((unhide T).drewN _).setN _ _ (by omega) | exact ((unhide T).setN _ _ (by omega)).drewN _ | exact (((unhide T).drewN _).setN _ _ (by omega)).drewN _) hL (by omega) (by omega)).mono ?_; rintro e wq ⟨rfl, hwq⟩; have hwr := hwq.symm; subst hwr; clear hwq))
        go_ret
        rw [unhide HD]
        exact ⟨rfl, rfl⟩
      · have HD : Hid (Pro.dashB L n = true) := by unfold Pro.dashB; simp [h1, h2, h3]; trivial
        have h2' : (Pro.letAt L (n + 1) != 93) = true := by simp [h2]
        have h3' : (Pro.letAt L (n + 1) != -1) = true := by simp [h3]
        clear h2 h3
        go_enter Tryz.func127, Tryz.ntmps127
        go_wp2_with (first | (go_at_call 89; refine (peek_t (n := n) (by first | exact unhide T | exact (unhide T).drewN _ | exact ((unhide T).drewN _).drewN _ | exact (unhide T).setN _ _ (by omega) | exact ((unhide T).drewN _).setN _ _ (by omega) | exact ((unhide T).setN _ _ (by omega)).drewN _ | exact (((unhide T).drewN _).setN _ _ (by omega)).drewN _) hL (by omega)).mono ?_; rintro e wq ⟨rfl, hwq⟩; have hwr := hwq.symm; subst hwr; clear hwq) | (go_at_call 91; refine (ahead_t (n := n) 1 (by first | exact unhide T | exact (unhide T).drewN _ | exact ((unhide T).drewN _).drewN _ | exact (unhide T).setN _ _ (by omega) | exact ((unhide T).drewN _).setN _ _ (by omega) | exact ((unhide T).setN _ _ (by omega)).drewN _ | exact (((unhide T).drewN _).setN _ _ (by omega)).drewN _) hL (by omega) (by omega)).mono ?_; rintro e wq ⟨rfl, hwq⟩; have hwr := hwq.symm; subst hwr; clear hwq))
        go_ret
        rw [unhide HD]
        exact ⟨rfl, rfl⟩
  · have HD : Hid (Pro.dashB L n = false) := by unfold Pro.dashB; simp [h1]; trivial
    have h1' : (Pro.letAt L n == 45) = false := by simp [h1]
    clear h1
    go_enter Tryz.func127, Tryz.ntmps127
    go_wp2_with (first | (go_at_call 89; refine (peek_t (n := n) (by first | exact unhide T | exact (unhide T).drewN _ | exact ((unhide T).drewN _).drewN _ | exact (unhide T).setN _ _ (by omega) | exact ((unhide T).drewN _).setN _ _ (by omega) | exact ((unhide T).setN _ _ (by omega)).drewN _ | exact (((unhide T).drewN _).setN _ _ (by omega)).drewN _) hL (by omega)).mono ?_; rintro e wq ⟨rfl, hwq⟩; have hwr := hwq.symm; subst hwr; clear hwq) | (go_at_call 91; refine (ahead_t (n := n) 1 (by first | exact unhide T | exact (unhide T).drewN _ | exact ((unhide T).drewN _).drewN _ | exact (unhide T).setN _ _ (by omega) | exact ((unhide T).drewN _).setN _ _ (by omega) | exact ((unhide T).setN _ _ (by omega)).drewN _ | exact (((unhide T).drewN _).setN _ _ (by omega)).drewN _) hL (by omega) (by omega)).mono ?_; rintro e wq ⟨rfl, hwq⟩; have hwr := hwq.symm; subst hwr; clear hwq))
    go_ret
    rw [unhide HD]
    exact ⟨rfl, rfl⟩
end Go.Proofs.YtdhmllobgijggaaGreatDoor
