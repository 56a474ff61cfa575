/- The reference's members, openings and counts. The reference's counts. -/
import Derived.Test.YtnagphodmfejiaaGreatDoorKRefFRefJ
namespace Go.Proofs.YtnagphodmfejiaaGreatDoor
open Go.RowKit
namespace Ref
def memberF (s : ByteArray) (st : St) : Pt × Bool × St :=
 if byteAt s st.i = 92 then escapeF s true st
 else match oneF s st.i with
   | some (n, c) => (⟨false, [(c, c)]⟩, true, st.go n)
   | none => (⟨false, []⟩, true, st)
def openF (s : ByteArray) (st : St) : St :=
 if byteAt s (st.i + 1) = 63 then
   (if byteAt s (st.i + 2) = 58 then st.go 3
    else if byteAt s (st.i + 2) = 61 ∨ byteAt s (st.i + 2) = 33 ∨ byteAt s (st.i + 2) = 60 then (st.go 2).fail 6 st.i
    else (st.go 2).fail 3 ((st.i + 2 : Nat) : Int))
 else st.go 1
def digitB (b : Int) : Bool := decide (48 ≤ b) && decide (b ≤ 57)
def countL (s : ByteArray) : Nat → Int → St → Int × St
 | 0, n, st => (n, st)
 | f + 1, n, st => if digitB (byteAt s st.i) = true then countL s f (if n ≤ 100 then 10 * n + byteAt s st.i - 48 else n) (st.go 1) else (n, st)
def countN (s : ByteArray) (st : St) : Int × St := countL s (s.size + 1 - st.i) 0 st
def countF (s : ByteArray) (st : St) : Int × St :=
 let r := countN s st
 let st1 := if r.2.i = st.i then r.2.fail 3 st.i else r.2
 (r.1, if 100 < r.1 then st1.fail 5 st.i else st1)
theorem countL_stop {s : ByteArray} {f : Nat} {n : Int} {st : St} (h : digitB (byteAt s st.i) = false) : countL s (f + 1) n st = (n, st) := by simp [countL, h]
theorem countL_go {s : ByteArray} {f : Nat} {n : Int} {st : St} (h : digitB (byteAt s st.i) = true) : countL s (f + 1) n st = countL s f (if n ≤ 100 then 10 * n + byteAt s st.i - 48 else n) (st.go 1) := by simp [countL, h]
end Ref
theorem Only.undrewN {P : Nat → Prop} {a w : World} {n : Nat} (h : Only P (a.drewN n) w) : Only P a w := ⟨h.os, h.tape, h.output, h.size, h.block⟩
theorem res2 {P : Nat → Prop} {W w : World} {n : Nat} {a0 a1 : Value} {T : TypeId} (h : Only P (W.alloc (.cells #[a0, a1] T)) w) (hn : W.heap.size = n) (hp : ¬ P n) :
   w.cell? ⟨n, 0, none⟩ = some a0 ∧ w.cell? ⟨n, 1, none⟩ = some a1 ∧ w.frozen? ⟨n, 0, none⟩ = false ∧ w.frozen? ⟨n, 1, none⟩ = false ∧ n < w.heap.size :=
 have r0 := cell_kept h ⟨n, 0, none⟩ _ (new_cell _ _ hn _ _ 0 _ rfl) hp
 ⟨r0, cell_kept h ⟨n, 1, none⟩ _ (new_cell _ _ hn _ _ 1 _ rfl) hp, frozen_kept h ⟨n, 0, none⟩ (by simp; omega) (new_frozen _ _ hn _ _ 0) hp, frozen_kept h ⟨n, 1, none⟩ (by simp; omega) (new_frozen _ _ hn _ _ 1) hp,
  World.block_lt_of_cell? w ⟨n, 0, none⟩ r0⟩
theorem res6 {P : Nat → Prop} {W w : World} {n : Nat} {a0 a1 a2 a3 a4 a5 : Value} {T : TypeId} (h : Only P (W.alloc (.cells #[a0, a1, a2, a3, a4, a5] T)) w) (hn : W.heap.size = n) (hp : ¬ P n) :
   (w.cell? ⟨n, 0, none⟩ = some a0 ∧ w.cell? ⟨n, 1, none⟩ = some a1 ∧ w.cell? ⟨n, 2, none⟩ = some a2 ∧ w.cell? ⟨n, 3, none⟩ = some a3 ∧ w.cell? ⟨n, 4, none⟩ = some a4 ∧ w.cell? ⟨n, 5, none⟩ = some a5) ∧
   (w.frozen? ⟨n, 0, none⟩ = false ∧ w.frozen? ⟨n, 1, none⟩ = false ∧ w.frozen? ⟨n, 2, none⟩ = false ∧ w.frozen? ⟨n, 3, none⟩ = false ∧ w.frozen? ⟨n, 4, none⟩ = false ∧ w.frozen? ⟨n, 5, none⟩ = false) ∧ n < w.heap.size :=
 have r0 := cell_kept h ⟨n, 0, none⟩ _ (new_cell _ _ hn _ _ 0 _ rfl) hp
 ⟨⟨r0, cell_kept h ⟨n, 1, none⟩ _ (new_cell _ _ hn _ _ 1 _ rfl) hp, cell_kept h ⟨n, 2, none⟩ _ (new_cell _ _ hn _ _ 2 _ rfl) hp, cell_kept h ⟨n, 3, none⟩ _ (new_cell _ _ hn _ _ 3 _ rfl) hp, cell_kept h ⟨n, 4, none⟩ _ (new_cell _ _ hn _ _ 4 _ rfl) hp, cell_kept h ⟨n, 5, none⟩ _ (new_cell _ _ hn _ _ 5 _ rfl) hp⟩,
  ⟨frozen_kept h ⟨n, 0, none⟩ (by simp; omega) (new_frozen _ _ hn _ _ 0) hp, frozen_kept h ⟨n, 1, none⟩ (by simp; omega) (new_frozen _ _ hn _ _ 1) hp, frozen_kept h ⟨n, 2, none⟩ (by simp; omega) (new_frozen _ _ hn _ _ 2) hp,
   frozen_kept h ⟨n, 3, none⟩ (by simp; omega) (new_frozen _ _ hn _ _ 3) hp, frozen_kept h ⟨n, 4, none⟩ (by simp; omega) (new_frozen _ _ hn _ _ 4) hp, frozen_kept h ⟨n, 5, none⟩ (by simp; omega) (new_frozen _ _ hn _ _ 5) hp⟩,
  World.block_lt_of_cell? w ⟨n, 0, none⟩ r0⟩
theorem own_slice {w : World} {base : Nat} {T : TypeId} {size : Nat} {v : Value} {n : Nat} {xs : List Value} (h : w.ownsRow base T size v n xs) : ∃ a k c, v = .slice a k c := by
 obtain ⟨h1, h2⟩ := h
 rcases h2 with ⟨rfl, _⟩ | ⟨g, cap, cur, rfl, _⟩
 · exact ⟨_, _, _, rfl⟩
 · exact ⟨_, _, _, rfl⟩
theorem Only.two (n : Nat) (w : World) (u0 u1 : Value) : Only (Mine n) w ((w.setCell ⟨n, 0, none⟩ u0).setCell ⟨n, 1, none⟩ u1) := ((Only.refl _ _).mine _ _).mine _ _
theorem Only.six (n : Nat) (w : World) (u0 u1 u2 u3 u4 u5 : Value) : Only (Mine n) w ((((((w.setCell ⟨n, 0, none⟩ u0).setCell ⟨n, 1, none⟩ u1).setCell ⟨n, 2, none⟩ u2).setCell ⟨n, 3, none⟩ u3).setCell ⟨n, 4, none⟩ u4).setCell ⟨n, 5, none⟩ u5) :=
 ((((((Only.refl _ _).mine _ _).mine _ _).mine _ _).mine _ _).mine _ _).mine _ _
theorem Only.young {P : Nat → Prop} {a w w' : World} {n : Nat} (h : Only P a w) (k : Only (Mine n) w w') (hn : a.heap.size ≤ n) : Only P a w' :=
 ⟨k.os.trans h.os, k.tape.trans h.tape, k.output.trans h.output, Nat.le_trans h.size k.size, fun i hi hp => (k.block i (Nat.lt_of_lt_of_le hi h.size) (by unfold Mine; omega)).trans (h.block i hi hp)⟩
set_option maxHeartbeats 400000 in
theorem member_any (b : Nat) (s : ByteArray) (st : St) (w : World) (h : Lex w b s st) (hs : s.size ≤ 400) (hi : st.i < s.size) (hg : Ref.Good s st.i) :
   Calls Tryz.prog 163 #[.pointer (some ⟨b, 0, none⟩)] w fun x w' =>
     ∃ sv, x = .returned (.tuple #[.agg #[.bool (Ref.memberF s st).1.neg, sv], .bool (Ref.memberF s st).2.1]) ∧ SpansAt w' w.heap.size sv (Ref.memberF s st).1.spans ∧
       Lex w' b s (Ref.memberF s st).2.2 ∧ Only (Mine b) w w' := by
 have hlt := h.lt
 obtain ⟨n, c, ho, hgn⟩ := hg.next hi
 have hL1 := hide (h.alloc (.cells #[.bool false, .slice none 0 0] 274))
 by_cases hb : byteAt s st.i = 92
 · have hbb : (byteAt s st.i == 92) = true := by simp [hb]
   have HF : Hid (Ref.memberF s st = Ref.escapeF s true st) := by show _ = _; unfold Ref.memberF; rw [if_pos hb]
   clear ho hg hgn hb
   go_enter Tryz.func163, Tryz.ntmps163
   go_wp2_with fail
   refine (now_lex b s st _ (unhide hL1) hs).mono ?_
   rintro e w1 ⟨rfl, nq, rfl⟩
   go_wp2_with fail
   refine (escape_any b s true st _ ((unhide hL1).drewN _) hs hi).mono ?_
   rintro e w2 ⟨sv, rfl, hsp, hL2, hO2⟩
   obtain ⟨r0, r1, r2, r3, hsz⟩ := res2 hO2.undrewN rfl (by unfold Mine; omega)
   have Hsp := hide (hsp.base (base' := w.heap.size + 1) (by simp))
   have HL2 := hide hL2
   have HO2 := hide hO2.undrewN
   obtain ⟨v0, v1, v2, rfl⟩ := own_slice hsp
   clear hsp hL2 hO2
   go_wp2_with fail
   refine bodyPost_ret (v := .tuple #[.agg #[.bool (Ref.escapeF s true st).1.neg, .slice v0 v1 v2], .bool (Ref.escapeF s true st).2.1]) (by simp [results, Tryz.results163, go_sem, r0, r1]) rfl ?_
   rw [unhide HF]
   refine ⟨_, rfl, ?_, ?_, ?_⟩
   · exact ((unhide Hsp).keep (Only.two w.heap.size _ _ _) (by intro g hg _ hh; unfold Mine at hh; omega)).base (by omega)
   · exact (unhide HL2).keep (Only.two w.heap.size _ _ _) (by unfold Mine; omega)
   · exact (((Only.refl _ _).alloc _).trans (unhide HO2)).young (Only.two w.heap.size _ _ _) (Nat.le_refl _)
 · have hbb : (byteAt s st.i == 92) = false := by simp [hb]
   have HF : Hid (Ref.memberF s st = (⟨false, [(c, c)]⟩, true, st.go n)) := by show _ = _; unfold Ref.memberF; rw [if_neg hb, ho]
   have Ho := hide ho
   have Hg := hide hgn
   clear ho hg hgn hb
   go_enter Tryz.func163, Tryz.ntmps163
   go_wp2_with fail
   refine (now_lex b s st _ (unhide hL1) hs).mono ?_
   rintro e w1 ⟨rfl, nq, rfl⟩
   go_wp2_with fail
   refine (char_any b s st n c _ ((unhide hL1).drewN _) hs hi (unhide Ho) (unhide Hg)).mono ?_
   rintro e w2 ⟨sv, rfl, hsp, hL2, hO2⟩
   obtain ⟨r0, r1, r2, r3, hsz⟩ := res2 hO2.undrewN rfl (by unfold Mine; omega)
   have Hsp := hide (hsp.base (base' := w.heap.size + 1) (by simp))
   have HL2 := hide hL2
   have HO2 := hide hO2.undrewN
   obtain ⟨v0, v1, v2, rfl⟩ := own_slice hsp
   clear hsp hL2 hO2
   go_wp2_with fail
   refine bodyPost_ret (v := .tuple #[.agg #[.bool false, .slice v0 v1 v2], .bool true]) (by simp [results, Tryz.results163, go_sem, r0, r1]) rfl ?_
   rw [unhide HF]
   refine ⟨_, rfl, ?_, ?_, ?_⟩
   · exact ((unhide Hsp).keep (Only.two w.heap.size _ _ _) (by intro g hg _ hh; unfold Mine at hh; omega)).base (by omega)
   · exact (unhide HL2).keep (Only.two w.heap.size _ _ _) (by unfold Mine; omega)
   · exact (((Only.refl _ _).alloc _).trans (unhide HO2)).young (Only.two w.heap.size _ _ _) (Nat.le_refl _)
set_option maxHeartbeats 800000 in
theorem open_any (b : Nat) (s : ByteArray) (st : St) (w : World) (h : Lex w b s st) (hs : s.size ≤ 400) (hi : st.i < s.size) :
   Calls Tryz.prog 125 #[.pointer (some ⟨b, 0, none⟩)] w fun x w' =>
     x = .returned (.agg #[.int .i64 3, .bool false, .slice none 0 0, .int .i64 0, .int .i64 0, .int .i64 0]) ∧ Lex w' b s (Ref.openF s st) ∧ Only (Mine b) w w' := by
 have hlt := h.lt
 have hL1 := hide h
 obtain ⟨c0, c1, c2, c3, f1, f2, f3⟩ := h
 go_enter Tryz.func125, Tryz.ntmps125
 go_wp2_with fail
 have hL2 := hide (((unhide hL1).setI ((st.i : Int) + 1) 1 (by omega)).alloc (.cells #[.int .i64 0, .bool false, .slice none 0 0, .int .i64 0, .int .i64 0, .int .i64 0] 178))
 have hO1 := hide (((Only.refl (Mine b) w).mine 1 (.int .i64 ((st.i : Int) + 1))).alloc (.cells #[.int .i64 0, .bool false, .slice none 0 0, .int .i64 0, .int .i64 0, .int .i64 0] 178))
 refine (now_lex b s (st.go 1) _ (unhide hL2) hs).mono ?_
 rintro e w1 ⟨rfl, nq, rfl⟩
 simp only [St.go]
 by_cases h1 : byteAt s (st.i + 1) = 63
 · have hb1 : (byteAt s (st.i + 1) == 63) = true := by simp [h1]
   go_wp2_with fail
   have hL3 := hide (((unhide hL2).drewN nq).setI ((st.i : Int) + 1 + 1) 1 (by simp only [St.go]; omega))
   have hO3 := hide (((unhide hO1).drewN nq).mine 1 (.int .i64 ((st.i : Int) + 1 + 1)))
   refine (now_lex b s ((st.go 1).go 1) _ (unhide hL3) hs).mono ?_
   rintro e w1 ⟨rfl, nq1, rfl⟩
   simp only [St.go]
   rw [show st.i + 1 + 1 = st.i + 2 from rfl]
   by_cases h2 : byteAt s (st.i + 2) = 58
   · have hb2 : (byteAt s (st.i + 2) == 58) = true := by simp [h2]
     have HF : Hid (Ref.openF s st = st.go 3) := by show _ = _; unfold Ref.openF; rw [if_pos h1, if_pos h2]
     clear h1 h2
     go_wp2_with fail
     refine bodyPost_ret (v := .agg #[.int .i64 3, .bool false, .slice none 0 0, .int .i64 0, .int .i64 0, .int .i64 0]) (by simp [results, Tryz.results125, go_sem]) rfl ?_
     rw [unhide HF]
     exact ⟨rfl, (((unhide hL3).drewN nq1).setI _ 1 (by simp only [St.go]; omega)).keep (Only.six w.heap.size _ _ _ _ _ _ _) (by unfold Mine; omega), (((unhide hO3).drewN nq1).mine 1 _).young (Only.six w.heap.size _ _ _ _ _ _ _) (Nat.le_refl _)⟩
   · have hb2 : (byteAt s (st.i + 2) == 58) = false := by simp [h2]
     by_cases h3 : byteAt s (st.i + 2) = 61 ∨ byteAt s (st.i + 2) = 33 ∨ byteAt s (st.i + 2) = 60
     · have HF : Hid (Ref.openF s st = (st.go 2).fail 6 st.i) := by show _ = _; unfold Ref.openF; rw [if_pos h1, if_neg h2, if_pos h3]
       have h3' : (byteAt s (st.i + 2) == 61) = true ∨ (byteAt s (st.i + 2) == 61) = false ∧ ((byteAt s (st.i + 2) == 33) = true ∨ (byteAt s (st.i + 2) == 33) = false ∧ (byteAt s (st.i + 2) == 60) = true) := by simp; omega
       clear h1 h2 h3
       rcases h3' with y1 | ⟨y1, y2 | ⟨y2, y3⟩⟩
       all_goals
         go_wp2_with fail
         refine (fail_lex b s (st.go 2) 6 _ _ ((unhide hL3).drewN nq1)).mono ?_
         rintro e w2 ⟨rfl, hL4, hO4⟩
         obtain ⟨⟨r0, r1, r2, r3, r4, r5⟩, ⟨q0, q1, q2, q3, q4, q5⟩, hsz⟩ := res6 (P := Mine b) (n := w.heap.size) (((((Only.refl _ _).drewN nq).mine 1 _).drewN nq1).trans hO4) (by simp) (by unfold Mine; omega)
         have HL4 := hide hL4
         have HO4 := hide (((unhide hO3).drewN nq1).trans hO4)
         clear hL4 hO4
         go_wp2_with fail
         refine bodyPost_ret (v := .agg #[.int .i64 3, .bool false, .slice none 0 0, .int .i64 0, .int .i64 0, .int .i64 0]) (by simp [results, Tryz.results125, go_sem, r0, r1, r2, r3, r4, r5]) rfl ?_
         rw [unhide HF]
         exact ⟨rfl, (unhide HL4).keep (Only.six w.heap.size _ _ _ _ _ _ _) (by unfold Mine; omega), (unhide HO4).young (Only.six w.heap.size _ _ _ _ _ _ _) (Nat.le_refl _)⟩
     · have HF : Hid (Ref.openF s st = (st.go 2).fail 3 ((st.i + 2 : Nat) : Int)) := by show _ = _; unfold Ref.openF; rw [if_pos h1, if_neg h2, if_neg h3]
       have h3' : (byteAt s (st.i + 2) == 61) = false ∧ (byteAt s (st.i + 2) == 33) = false ∧ (byteAt s (st.i + 2) == 60) = false := by simp; omega
       obtain ⟨y1, y2, y3⟩ := h3'
       clear h1 h2 h3
       go_wp2_with fail
       refine (fail_lex b s (st.go 2) 3 _ _ ((unhide hL3).drewN nq1)).mono ?_
       rintro e w2 ⟨rfl, hL4, hO4⟩
       obtain ⟨⟨r0, r1, r2, r3, r4, r5⟩, ⟨q0, q1, q2, q3, q4, q5⟩, hsz⟩ := res6 (P := Mine b) (n := w.heap.size) (((((Only.refl _ _).drewN nq).mine 1 _).drewN nq1).trans hO4) (by simp) (by unfold Mine; omega)
       have HL4 := hide hL4
       have HO4 := hide (((unhide hO3).drewN nq1).trans hO4)
       clear hL4 hO4
       go_wp2_with fail
       refine bodyPost_ret (v := .agg #[.int .i64 3, .bool false, .slice none 0 0, .int .i64 0, .int .i64 0, .int .i64 0]) (by simp [results, Tryz.results125, go_sem, r0, r1, r2, r3, r4, r5]) rfl ?_
       rw [unhide HF]
       exact ⟨rfl, (unhide HL4).keep (Only.six w.heap.size _ _ _ _ _ _ _) (by unfold Mine; omega), (unhide HO4).young (Only.six w.heap.size _ _ _ _ _ _ _) (Nat.le_refl _)⟩
 · have hb1 : (byteAt s (st.i + 1) == 63) = false := by simp [h1]
   have HF : Hid (Ref.openF s st = st.go 1) := by show _ = _; unfold Ref.openF; rw [if_neg h1]
   clear h1
   go_wp2_with fail
   refine bodyPost_ret (v := .agg #[.int .i64 3, .bool false, .slice none 0 0, .int .i64 0, .int .i64 0, .int .i64 0]) (by simp [results, Tryz.results125, go_sem]) rfl ?_
   rw [unhide HF]
   exact ⟨rfl, ((unhide hL2).drewN nq).keep (Only.six w.heap.size _ _ _ _ _ _ _) (by unfold Mine; omega), ((unhide hO1).drewN nq).young (Only.six w.heap.size _ _ _ _ _ _ _) (Nat.le_refl _)⟩
namespace Ref
theorem digitB_true {b : Int} (h : digitB b = true) : 48 ≤ b ∧ b ≤ 57 := by simpa [digitB] using h
theorem digitB_false {b : Int} (h : digitB b = false) : ¬ (48 ≤ b ∧ b ≤ 57) := by
 intro ⟨h1, h2⟩; simp [digitB, h1, h2] at h
theorem countF_eq {s : ByteArray} {st st' : St} {n : Int} (h : countN s st = (n, st')) : countF s st = (n, if 100 < n then (if st'.i = st.i then st'.fail 3 st.i else st').fail 5 st.i else (if st'.i = st.i then st'.fail 3 st.i else st')) := by
 unfold countF; rw [h]
end Ref
def lexI (w : World) (b : Nat) : Nat := match w.cell? ⟨b, 1, none⟩ with
 | some v => (intOf v).toNat
 | none => 0
theorem lexI_of {w : World} {b : Nat} {s : ByteArray} {st : St} (h : Lex w b s st) : lexI w b = st.i := by unfold lexI; rw [h.c1]; simp [intOf]
set_option maxHeartbeats 800000 in
theorem count_any (b : Nat) (s : ByteArray) (st : St) (w : World) (h : Lex w b s st) (hs : s.size ≤ 400) (hi : st.i ≤ s.size) :
   Calls Tryz.prog 162 #[.pointer (some ⟨b, 0, none⟩)] w fun x w' =>
     x = .returned (.int .i64 (Ref.countF s st).1) ∧ Lex w' b s (Ref.countF s st).2 ∧ Only (Mine b) w w' := by
 have hL1 := hide h
 obtain ⟨c0, c1, c2, c3, f1, f2, f3⟩ := h
 go_enter Tryz.func162, Tryz.ntmps162
 go_wp2_with fail
 go_loopw [4] (fun n wr => ∃ (q : Int) (st' : St), n = .int .i64 q ∧ 0 ≤ q ∧ q ≤ 2000 ∧ st'.i ≤ s.size ∧ Lex wr b s st' ∧ Only (Mine b) w wr ∧ Hid (Ref.countN s st = Ref.countL s (s.size + 1 - st'.i) q st'))
   (fun _ wr => s.size - lexI wr b)
 case atStart => exact ⟨0, st, rfl, by omega, by omega, hi, unhide hL1, Only.refl _ _, rfl⟩
 case round =>
   obtain ⟨q, st', rfl, hq0, hq1, hi', hL, hO, HF⟩ := hrel
   have hfu : Hid (s.size + 1 - st'.i = (s.size - st'.i) + 1) := by show _ = _; omega
   have hL2 := hide hL
   clear c0 c1 c2 c3 f1 f2 f3
   cases hd : Ref.digitB (byteAt s st'.i)
   · have HG : Hid (Ref.countN s st = (q, st')) := by rw [unhide HF, unhide hfu]; exact Ref.countL_stop hd
     have hnd := Ref.digitB_false hd
     clear hd
     by_cases hlo : 48 ≤ byteAt s st'.i
     · have hhi : 57 < byteAt s st'.i := by omega
       have hhd : decide (byteAt s st'.i ≤ 57) = false := by simp; omega
       clear hnd
       go_wp2_with fail
       refine (now_lex b s st' _ hL hs).mono ?_
       rintro e w1 ⟨rfl, nq, rfl⟩
       go_wp2_with fail
       refine (now_lex b s st' _ (hL.drewN _) hs).mono ?_
       rintro e w1 ⟨rfl, nq1, rfl⟩
       obtain ⟨c0, c1, c2, c3, f1, f2, f3⟩ := hL
       by_cases he : st'.i = st.i
       · have hb : ((st'.i : Int) == (st.i : Int)) = true := by simp [he]
         have Hee := hide he
         clear he
         go_wp2_with fail
         refine (fail_lex b s st' 3 _ _ ((unhide hL2).drewN _)).mono ?_
         rintro e w2 ⟨rfl, hL3, hO3⟩
         by_cases hn : 100 < q
         · have HH : Hid (Ref.countF s st = (q, (st'.fail 3 st.i).fail 5 st.i)) := by rw [Ref.countF_eq (unhide HG), if_pos hn, if_pos (unhide Hee)]; rfl
           go_wp2_with fail
           refine (fail_lex b s _ 5 _ _ hL3).mono ?_
           rintro e w3 ⟨rfl, hL4, hO4⟩
           go_wp2_with fail
           go_ret
           rw [unhide HH]
           exact ⟨rfl, hL4, ((hO.drewN _).trans hO3).trans hO4⟩
         · have HH : Hid (Ref.countF s st = (q, (st'.fail 3 st.i))) := by rw [Ref.countF_eq (unhide HG), if_neg hn, if_pos (unhide Hee)]; rfl
           go_wp2_with fail
           go_ret
           rw [unhide HH]
           exact ⟨rfl, hL3, ((hO.drewN _).trans hO3)⟩
       · have hb : ((st'.i : Int) == (st.i : Int)) = false := by simp; omega
         have Hee := hide he
         clear he
         by_cases hn : 100 < q
         · have HH : Hid (Ref.countF s st = (q, st'.fail 5 st.i)) := by rw [Ref.countF_eq (unhide HG), if_pos hn, if_neg (unhide Hee)]; rfl
           go_wp2_with fail
           refine (fail_lex b s st' 5 _ _ ((unhide hL2).drewN _)).mono ?_
           rintro e w3 ⟨rfl, hL4, hO4⟩
           go_wp2_with fail
           go_ret
           rw [unhide HH]
           exact ⟨rfl, hL4, (hO.drewN _).trans hO4⟩
         · have HH : Hid (Ref.countF s st = (q, st')) := by rw [Ref.countF_eq (unhide HG), if_neg hn, if_neg (unhide Hee)]; rfl
           go_wp2_with fail
           go_ret
           rw [unhide HH]
           exact ⟨rfl, (unhide hL2).drewN _, hO.drewN _⟩
     · clear hnd
       have hhd : decide (48 ≤ byteAt s st'.i) = false := by simp; omega
       go_wp2_with fail
       refine (now_lex b s st' _ hL hs).mono ?_
       rintro e w1 ⟨rfl, nq, rfl⟩
       obtain ⟨c0, c1, c2, c3, f1, f2, f3⟩ := hL
       by_cases he : st'.i = st.i
       · have hb : ((st'.i : Int) == (st.i : Int)) = true := by simp [he]
         have Hee := hide he
         clear he
         go_wp2_with fail
         refine (fail_lex b s st' 3 _ _ ((unhide hL2).drewN _)).mono ?_
         rintro e w2 ⟨rfl, hL3, hO3⟩
         by_cases hn : 100 < q
         · have HH : Hid (Ref.countF s st = (q, (st'.fail 3 st.i).fail 5 st.i)) := by rw [Ref.countF_eq (unhide HG), if_pos hn, if_pos (unhide Hee)]; rfl
           go_wp2_with fail
           refine (fail_lex b s _ 5 _ _ hL3).mono ?_
           rintro e w3 ⟨rfl, hL4, hO4⟩
           go_wp2_with fail
           go_ret
           rw [unhide HH]
           exact ⟨rfl, hL4, ((hO.drewN _).trans hO3).trans hO4⟩
         · have HH : Hid (Ref.countF s st = (q, (st'.fail 3 st.i))) := by rw [Ref.countF_eq (unhide HG), if_neg hn, if_pos (unhide Hee)]; rfl
           go_wp2_with fail
           go_ret
           rw [unhide HH]
           exact ⟨rfl, hL3, ((hO.drewN _).trans hO3)⟩
       · have hb : ((st'.i : Int) == (st.i : Int)) = false := by simp; omega
         have Hee := hide he
         clear he
         by_cases hn : 100 < q
         · have HH : Hid (Ref.countF s st = (q, st'.fail 5 st.i)) := by rw [Ref.countF_eq (unhide HG), if_pos hn, if_neg (unhide Hee)]; rfl
           go_wp2_with fail
           refine (fail_lex b s st' 5 _ _ ((unhide hL2).drewN _)).mono ?_
           rintro e w3 ⟨rfl, hL4, hO4⟩
           go_wp2_with fail
           go_ret
           rw [unhide HH]
           exact ⟨rfl, hL4, (hO.drewN _).trans hO4⟩
         · have HH : Hid (Ref.countF s st = (q, st')) := by rw [Ref.countF_eq (unhide HG), if_neg hn, if_neg (unhide Hee)]; rfl
           go_wp2_with fail
           go_ret
           rw [unhide HH]
           exact ⟨rfl, (unhide hL2).drewN _, hO.drewN _⟩
   · have HG : Hid (Ref.countN s st = Ref.countL s (s.size + 1 - (st'.go 1).i) (if q ≤ 100 then 10 * q + byteAt s st'.i - 48 else q) (st'.go 1)) := by
       rw [unhide HF, unhide hfu, show s.size + 1 - (st'.go 1).i = s.size - st'.i by simp only [St.go]; omega]; exact Ref.countL_go hd
     obtain ⟨hlo, hhi⟩ := Ref.digitB_true hd
     have hlt : st'.i < s.size := by rw [← byteAt_nonneg]; omega
     clear hd
     go_wp2_with fail
     refine (now_lex b s st' _ hL hs).mono ?_
     rintro e w1 ⟨rfl, nq, rfl⟩
     go_wp2_with fail
     refine (now_lex b s st' _ (hL.drewN _) hs).mono ?_
     rintro e w1 ⟨rfl, nq1, rfl⟩
     by_cases hn : q ≤ 100
     · have HG1 : Hid (Ref.countN s st = Ref.countL s (s.size + 1 - (st'.go 1).i) (10 * q + byteAt s st'.i - 48) (st'.go 1)) := by rw [unhide HG, if_pos hn]; rfl
       go_wp2_with fail
       refine (now_lex b s st' _ (hL.drewN _) hs).mono ?_
       rintro e w1 ⟨rfl, nq2, rfl⟩
       obtain ⟨c0, c1, c2, c3, f1, f2, f3⟩ := hL
       go_wp2_with fail
       have hLn := ((unhide hL2).drewN (nq + nq1 + nq2)).setI ((st'.i : Int) + 1) 1 (by omega)
       go_roundw
       case rel => exact ⟨_, st'.go 1, rfl, by omega, by omega, by simp only [St.go]; omega, hLn, (hO.drewN _).mine _ _, HG1⟩
       case measure => rw [lexI_of (unhide hL2), lexI_of hLn]; simp only [St.go]; omega
     · have HG1 : Hid (Ref.countN s st = Ref.countL s (s.size + 1 - (st'.go 1).i) q (st'.go 1)) := by rw [unhide HG, if_neg hn]; rfl
       obtain ⟨c0, c1, c2, c3, f1, f2, f3⟩ := hL
       go_wp2_with fail
       have hLn := ((unhide hL2).drewN (nq + nq1)).setI ((st'.i : Int) + 1) 1 (by omega)
       go_roundw
       case rel => exact ⟨_, st'.go 1, rfl, by omega, by omega, by simp only [St.go]; omega, hLn, (hO.drewN _).mine _ _, HG1⟩
       case measure => rw [lexI_of (unhide hL2), lexI_of hLn]; simp only [St.go]; omega
end Go.Proofs.YtnagphodmfejiaaGreatDoor
