/- The reference's quantifiers. The reference's quantifiers. The reference's lexer stays within the text, at a character's beginning. Plain facts. -/
import Derived.Test.YtnagphodmfejiaaGreatDoorKRefKRefL
namespace Go.Proofs.YtnagphodmfejiaaGreatDoor
open Go.RowKit
namespace Ref
def restF (s : ByteArray) (mn : Int) (st : St) : Int × St :=
 if st.e = 0 ∧ byteAt s st.i = 44 then
   (if byteAt s (st.i + 1) = 125 then (-1, st.go 1) else countF s (st.go 1))
 else (mn, st)
def braceF (s : ByteArray) (st : St) : St := if st.e = 0 ∧ byteAt s st.i ≠ 125 then st.fail 3 st.i else st
def countsF (s : ByteArray) (st : St) : Int × Int × St :=
 let r1 := countF s (st.go 1)
 let r2 := restF s r1.1 r1.2
 let st3 := (braceF s r2.2).go 1
 (r1.1, r2.1, if st3.e = 0 ∧ 0 ≤ r2.1 ∧ r2.1 < r1.1 then st3.fail 4 st.i else st3)
def lazyF (s : ByteArray) (st : St) : St := if st.e = 0 ∧ byteAt s st.i = 63 then st.go 1 else st
def quantF (s : ByteArray) (st : St) : Int × Int × St :=
 if byteAt s st.i = 43 then (1, -1, lazyF s (st.go 1))
 else if byteAt s st.i = 63 then (0, 1, lazyF s (st.go 1))
 else if byteAt s st.i = 42 then (0, -1, lazyF s (st.go 1))
 else ((countsF s st).1, (countsF s st).2.1, lazyF s (countsF s st).2.2)
theorem countL_bd (s : ByteArray) : ∀ (f : Nat) (n : Int) (st : St), 0 ≤ n → n ≤ 2000 → 0 ≤ (countL s f n st).1 ∧ (countL s f n st).1 ≤ 2000 ∧ st.i ≤ (countL s f n st).2.i ∧ (st.i ≤ s.size → (countL s f n st).2.i ≤ s.size)
 | 0, n, st, h0, h1 => by simp only [countL]; omega
 | f + 1, n, st, h0, h1 => by
   cases hd : digitB (byteAt s st.i)
   · rw [countL_stop hd]; simp only []; omega
   · rw [countL_go hd]
     have hb := digitB_true hd
     have hlt : st.i < s.size := by rw [← byteAt_nonneg]; omega
     have h := countL_bd s f (if n ≤ 100 then 10 * n + byteAt s st.i - 48 else n) (st.go 1) (by split <;> omega) (by split <;> omega)
     simp only [St.go] at h ⊢
     omega
theorem fail_i (st : St) (e a : Int) : (st.fail e a).i = st.i := by unfold St.fail; split <;> rfl
theorem countF_i (s : ByteArray) (st : St) : (countF s st).2.i = (countN s st).2.i := by
 unfold countF
 dsimp only
 split
 · rw [fail_i]; split
   · rw [fail_i]
   · rfl
 · split
   · rw [fail_i]
   · rfl
theorem countF_bd (s : ByteArray) (st : St) : 0 ≤ (countF s st).1 ∧ (countF s st).1 ≤ 2000 ∧ st.i ≤ (countF s st).2.i ∧ (st.i ≤ s.size → (countF s st).2.i ≤ s.size) := by
 rw [countF_i]
 exact countL_bd s (s.size + 1 - st.i) 0 st (by omega) (by omega)
end Ref
structure Six (w : World) (n : Nat) (a0 a1 a2 a3 a4 a5 : Value) : Prop where
 c0 : w.cell? ⟨n, 0, none⟩ = some a0
 c1 : w.cell? ⟨n, 1, none⟩ = some a1
 c2 : w.cell? ⟨n, 2, none⟩ = some a2
 c3 : w.cell? ⟨n, 3, none⟩ = some a3
 c4 : w.cell? ⟨n, 4, none⟩ = some a4
 c5 : w.cell? ⟨n, 5, none⟩ = some a5
 f0 : w.frozen? ⟨n, 0, none⟩ = false
 f1 : w.frozen? ⟨n, 1, none⟩ = false
 f2 : w.frozen? ⟨n, 2, none⟩ = false
 f3 : w.frozen? ⟨n, 3, none⟩ = false
 f4 : w.frozen? ⟨n, 4, none⟩ = false
 f5 : w.frozen? ⟨n, 5, none⟩ = false
section
variable {P : Nat → Prop} {w w' : World} {n : Nat} {a0 a1 a2 a3 a4 a5 : Value}
theorem Six.lt (h : Six w n a0 a1 a2 a3 a4 a5) : n < w.heap.size := World.block_lt_of_cell? w ⟨n, 0, none⟩ h.c0
theorem Six.keep (h : Six w n a0 a1 a2 a3 a4 a5) (k : Only P w w') (hn : ¬ P n) : Six w' n a0 a1 a2 a3 a4 a5 :=
 ⟨cell_kept k ⟨n, 0, none⟩ _ h.c0 hn, cell_kept k ⟨n, 1, none⟩ _ h.c1 hn, cell_kept k ⟨n, 2, none⟩ _ h.c2 hn, cell_kept k ⟨n, 3, none⟩ _ h.c3 hn, cell_kept k ⟨n, 4, none⟩ _ h.c4 hn, cell_kept k ⟨n, 5, none⟩ _ h.c5 hn,
  frozen_kept k ⟨n, 0, none⟩ h.lt h.f0 hn, frozen_kept k ⟨n, 1, none⟩ h.lt h.f1 hn, frozen_kept k ⟨n, 2, none⟩ h.lt h.f2 hn, frozen_kept k ⟨n, 3, none⟩ h.lt h.f3 hn, frozen_kept k ⟨n, 4, none⟩ h.lt h.f4 hn, frozen_kept k ⟨n, 5, none⟩ h.lt h.f5 hn⟩
theorem Six.new (W : World) (T : TypeId) (hn : W.heap.size = n) : Six (W.alloc (.cells #[a0, a1, a2, a3, a4, a5] T)) n a0 a1 a2 a3 a4 a5 :=
 ⟨new_cell _ _ hn _ _ 0 _ rfl, new_cell _ _ hn _ _ 1 _ rfl, new_cell _ _ hn _ _ 2 _ rfl, new_cell _ _ hn _ _ 3 _ rfl, new_cell _ _ hn _ _ 4 _ rfl, new_cell _ _ hn _ _ 5 _ rfl,
  new_frozen _ _ hn _ _ 0, new_frozen _ _ hn _ _ 1, new_frozen _ _ hn _ _ 2, new_frozen _ _ hn _ _ 3, new_frozen _ _ hn _ _ 4, new_frozen _ _ hn _ _ 5⟩
theorem Six.drewN (h : Six w n a0 a1 a2 a3 a4 a5) (k : Nat) : Six (w.drewN k) n a0 a1 a2 a3 a4 a5 := h.keep ((Only.refl (fun _ => False) w).drewN k) (fun f => f)
theorem Six.other (h : Six w n a0 a1 a2 a3 a4 a5) (p : Addr) (hp : p.block ≠ n) (u : Value) : Six (w.setCell p u) n a0 a1 a2 a3 a4 a5 :=
 h.keep (P := Mine p.block) ((Only.refl (Mine p.block) w).setCell (p := p) (Or.inl (show p.block = p.block from rfl)) u) (fun e => hp e.symm)
theorem Six.set1 (h : Six w n a0 a1 a2 a3 a4 a5) (u : Value) : Six (w.setCell ⟨n, 1, none⟩ u) n a0 u a2 a3 a4 a5 :=
 ⟨(World.cell?_setCell_other _ _ _ _ (by simp)).trans h.c0, World.cell?_setCell_same _ _ _ h.c1, (World.cell?_setCell_other _ _ _ _ (by simp)).trans h.c2, (World.cell?_setCell_other _ _ _ _ (by simp)).trans h.c3, (World.cell?_setCell_other _ _ _ _ (by simp)).trans h.c4, (World.cell?_setCell_other _ _ _ _ (by simp)).trans h.c5,
  (frozen_setCell _ _ _ _).trans h.f0, (frozen_setCell _ _ _ _).trans h.f1, (frozen_setCell _ _ _ _).trans h.f2, (frozen_setCell _ _ _ _).trans h.f3, (frozen_setCell _ _ _ _).trans h.f4, (frozen_setCell _ _ _ _).trans h.f5⟩
theorem Six.set2 (h : Six w n a0 a1 a2 a3 a4 a5) (u : Value) : Six (w.setCell ⟨n, 2, none⟩ u) n a0 a1 u a3 a4 a5 :=
 ⟨(World.cell?_setCell_other _ _ _ _ (by simp)).trans h.c0, (World.cell?_setCell_other _ _ _ _ (by simp)).trans h.c1, World.cell?_setCell_same _ _ _ h.c2, (World.cell?_setCell_other _ _ _ _ (by simp)).trans h.c3, (World.cell?_setCell_other _ _ _ _ (by simp)).trans h.c4, (World.cell?_setCell_other _ _ _ _ (by simp)).trans h.c5,
  (frozen_setCell _ _ _ _).trans h.f0, (frozen_setCell _ _ _ _).trans h.f1, (frozen_setCell _ _ _ _).trans h.f2, (frozen_setCell _ _ _ _).trans h.f3, (frozen_setCell _ _ _ _).trans h.f4, (frozen_setCell _ _ _ _).trans h.f5⟩
theorem Six.set4 (h : Six w n a0 a1 a2 a3 a4 a5) (u : Value) : Six (w.setCell ⟨n, 4, none⟩ u) n a0 a1 a2 a3 u a5 :=
 ⟨(World.cell?_setCell_other _ _ _ _ (by simp)).trans h.c0, (World.cell?_setCell_other _ _ _ _ (by simp)).trans h.c1, (World.cell?_setCell_other _ _ _ _ (by simp)).trans h.c2, (World.cell?_setCell_other _ _ _ _ (by simp)).trans h.c3, World.cell?_setCell_same _ _ _ h.c4, (World.cell?_setCell_other _ _ _ _ (by simp)).trans h.c5,
  (frozen_setCell _ _ _ _).trans h.f0, (frozen_setCell _ _ _ _).trans h.f1, (frozen_setCell _ _ _ _).trans h.f2, (frozen_setCell _ _ _ _).trans h.f3, (frozen_setCell _ _ _ _).trans h.f4, (frozen_setCell _ _ _ _).trans h.f5⟩
theorem Six.set5 (h : Six w n a0 a1 a2 a3 a4 a5) (u : Value) : Six (w.setCell ⟨n, 5, none⟩ u) n a0 a1 a2 a3 a4 u :=
 ⟨(World.cell?_setCell_other _ _ _ _ (by simp)).trans h.c0, (World.cell?_setCell_other _ _ _ _ (by simp)).trans h.c1, (World.cell?_setCell_other _ _ _ _ (by simp)).trans h.c2, (World.cell?_setCell_other _ _ _ _ (by simp)).trans h.c3, (World.cell?_setCell_other _ _ _ _ (by simp)).trans h.c4, World.cell?_setCell_same _ _ _ h.c5,
  (frozen_setCell _ _ _ _).trans h.f0, (frozen_setCell _ _ _ _).trans h.f1, (frozen_setCell _ _ _ _).trans h.f2, (frozen_setCell _ _ _ _).trans h.f3, (frozen_setCell _ _ _ _).trans h.f4, (frozen_setCell _ _ _ _).trans h.f5⟩
end
namespace Ref
theorem countsF_eq {s : ByteArray} {st st1 stx : St} {mn mx : Int} (h1 : countF s (st.go 1) = (mn, st1)) (h2 : restF s mn st1 = (mx, stx)) :
   countsF s st = (mn, mx, if ((braceF s stx).go 1).e = 0 ∧ 0 ≤ mx ∧ mx < mn then ((braceF s stx).go 1).fail 4 st.i else (braceF s stx).go 1) := by
 unfold countsF; rw [h1]; simp only [h2]
theorem fail_ne (st : St) (e a : Int) (h : e ≠ 0) : (st.fail e a).e ≠ 0 := by unfold St.fail; split <;> simp_all
theorem countsF_dead {s : ByteArray} {st st1 stx : St} {mn mx : Int} (h1 : countF s (st.go 1) = (mn, st1)) (h2 : restF s mn st1 = (mx, stx)) (h3 : ¬ stx.e = 0) : countsF s st = (mn, mx, stx.go 1) := by
 rw [countsF_eq h1 h2]
 have hb : braceF s stx = stx := by unfold braceF; rw [if_neg (by intro h; exact h3 h.1)]
 rw [hb, if_neg (by intro h; exact h3 h.1)]
theorem countsF_bad {s : ByteArray} {st st1 stx : St} {mn mx : Int} (h1 : countF s (st.go 1) = (mn, st1)) (h2 : restF s mn st1 = (mx, stx)) (h3 : stx.e = 0) (h4 : ¬ byteAt s stx.i = 125) : countsF s st = (mn, mx, (stx.fail 3 stx.i).go 1) := by
 rw [countsF_eq h1 h2]
 have hb : braceF s stx = stx.fail 3 stx.i := by unfold braceF; rw [if_pos ⟨h3, h4⟩]
 rw [hb, if_neg (by intro h; exact fail_ne stx 3 stx.i (by decide) h.1)]
theorem countsF_turned {s : ByteArray} {st st1 stx : St} {mn mx : Int} (h1 : countF s (st.go 1) = (mn, st1)) (h2 : restF s mn st1 = (mx, stx)) (h3 : stx.e = 0) (h4 : byteAt s stx.i = 125) (h5 : 0 ≤ mx ∧ mx < mn) : countsF s st = (mn, mx, (stx.go 1).fail 4 st.i) := by
 rw [countsF_eq h1 h2]
 have hb : braceF s stx = stx := by unfold braceF; rw [if_neg (by intro h; exact h.2 h4)]
 rw [hb, if_pos ⟨h3, h5⟩]
theorem countsF_fine {s : ByteArray} {st st1 stx : St} {mn mx : Int} (h1 : countF s (st.go 1) = (mn, st1)) (h2 : restF s mn st1 = (mx, stx)) (_h3 : stx.e = 0) (h4 : byteAt s stx.i = 125) (h5 : ¬ (0 ≤ mx ∧ mx < mn)) : countsF s st = (mn, mx, stx.go 1) := by
 rw [countsF_eq h1 h2]
 have hb : braceF s stx = stx := by unfold braceF; rw [if_neg (by intro h; exact h.2 h4)]
 rw [hb, if_neg (by intro h; exact h5 h.2)]
end Ref
theorem now_abs (b : Nat) (s : ByteArray) (st : St) (w : World) (h : Lex w b s st) (hs : s.size ≤ 400) :
   Calls Tryz.prog 69 #[.pointer (some ⟨b, 0, none⟩)] w fun x w' => x = .returned (.int .i64 (byteAt s st.i)) ∧ Only (fun _ => False) w w' :=
 (now_lex b s st w h hs).mono fun _ _ ⟨h1, _, h2⟩ => ⟨h1, by rw [h2]; exact (Only.refl _ _).drewN _⟩
set_option maxHeartbeats 1600000 in
theorem counts_any (b : Nat) (s : ByteArray) (st : St) (w : World) (h : Lex w b s st) (hs : s.size ≤ 400) (hi : st.i < s.size) :
   Calls Tryz.prog 122 #[.pointer (some ⟨b, 0, none⟩)] w fun x w' =>
     x = .returned (.agg #[.int .i64 6, .bool false, .slice none 0 0, .int .i64 0, .int .i64 (Ref.countsF s st).1, .int .i64 (Ref.countsF s st).2.1]) ∧ Lex w' b s (Ref.countsF s st).2.2 ∧ Only (Mine b) w w' := by
 have hL1 := hide h
 have hlt := h.lt
 obtain ⟨c0, c1, c2, c3, f1, f2, f3⟩ := h
 have hL2 := hide ((((unhide hL1).setI ((st.i : Int) + 1) 1 (by omega)).alloc (.cells #[.int .i64 0, .bool false, .slice none 0 0, .int .i64 0, .int .i64 0, .int .i64 0] 178)).alloc (.cells #[.int .i64 6, .bool false, .slice none 0 0, .int .i64 0, .int .i64 0, .int .i64 0] 178))
 have hR2 := hide ((Six.new (n := w.heap.size) (a0 := .int .i64 0) (a1 := .bool false) (a2 := .slice none 0 0) (a3 := .int .i64 0) (a4 := .int .i64 0) (a5 := .int .i64 0) (w.setCell ⟨b, 1, none⟩ (.int .i64 ((st.i : Int) + 1))) 178 (by simp)).keep ((Only.refl (fun _ => False) _).alloc (.cells #[.int .i64 6, .bool false, .slice none 0 0, .int .i64 0, .int .i64 0, .int .i64 0] 178)) (fun f => f))
 have hT2 := hide (Six.new (n := w.heap.size + 1) (a0 := .int .i64 6) (a1 := .bool false) (a2 := .slice none 0 0) (a3 := .int .i64 0) (a4 := .int .i64 0) (a5 := .int .i64 0) ((w.setCell ⟨b, 1, none⟩ (.int .i64 ((st.i : Int) + 1))).alloc (.cells #[.int .i64 0, .bool false, .slice none 0 0, .int .i64 0, .int .i64 0, .int .i64 0] 178)) 178 (by simp))
 have hO2 := hide ((((Only.refl (Mine b) w).mine 1 (.int .i64 ((st.i : Int) + 1))).alloc (.cells #[.int .i64 0, .bool false, .slice none 0 0, .int .i64 0, .int .i64 0, .int .i64 0] 178)).alloc (.cells #[.int .i64 6, .bool false, .slice none 0 0, .int .i64 0, .int .i64 0, .int .i64 0] 178))
 go_enter Tryz.func122, Tryz.ntmps122
 go_wp2_with fail
 refine (count_any b s (st.go 1) _ (unhide hL2) hs (by simp only [St.go]; omega)).mono ?_
 rintro e w1 ⟨rfl, hL3, hO3⟩
 have hR3 := (unhide hR2).keep hO3 (by unfold Mine; omega)
 have hT3 := (unhide hT2).keep hO3 (by unfold Mine; omega)
 have HO3 := hide ((unhide hO2).trans hO3)
 have hcb := Ref.countF_bd s (st.go 1)
 have HC := hide (Eq.refl (Ref.countF s (st.go 1)))
 generalize hr : Ref.countF s (st.go 1) = r at *
 obtain ⟨mn, st1⟩ := r
 simp only [] at *
 obtain ⟨m0, m1, m2, m3⟩ := hcb
 have m4 : st1.i ≤ s.size := m3 (by simp only [St.go]; omega)
 have H1 := hide hr
 clear hr HC m3 c0 c1 c2 c3 f1 f2 f3
 have hL4 := hide ((hL3.keep (((Only.refl (Mine (w.heap.size + 1)) w1).mine 4 (.int .i64 mn)).mine 5 (.int .i64 mn)) (by unfold Mine; omega)))
 have hT4 := hide ((hT3.set4 (.int .i64 mn)).set5 (.int .i64 mn))
 have hR4 := hide ((hR3.other ⟨w.heap.size + 1, 4, none⟩ (by simp) (.int .i64 mn)).other ⟨w.heap.size + 1, 5, none⟩ (by simp) (.int .i64 mn))
 have hO4 := hide ((unhide HO3).young (((Only.refl (Mine (w.heap.size + 1)) w1).mine 4 (.int .i64 mn)).mine 5 (.int .i64 mn)) (by omega))
 obtain ⟨t0, t1, t2, t3, t4, t5, v0, v1, v2, v3, v4, v5⟩ := hT3
 obtain ⟨r0, r1, r2, r3, r4, r5, u0, u1, u2, u3, u4, u5⟩ := hR3
 obtain ⟨l0, l1, l2, l3, k1, k2, k3⟩ := hL3
 clear hO3
 by_cases e1 : st1.e = 0
 · have eb : (st1.e == 0) = true := by simp [e1]
   have E1 := hide e1
   clear e1
   by_cases b1 : byteAt s st1.i = 44
   · have bb : (byteAt s st1.i == 44) = true := by simp [b1]
     have hlt1 : st1.i < s.size := by rw [← byteAt_nonneg]; omega
     go_wp2_with fail
     refine (now_lex b s st1 _ (unhide hL4) hs).mono ?_
     rintro e w2 ⟨rfl, nq, rfl⟩
     go_wp2_with fail
     have hL5 := hide ((((unhide hL4).drewN nq).setI ((st1.i : Int) + 1) 1 (by omega)).keep ((Only.refl (Mine (w.heap.size + 1)) _).mine 5 (.int .i64 (-1))) (by unfold Mine; omega))
     have hT5 := hide (((((unhide hT4).drewN nq).other ⟨b, 1, none⟩ (by simp; omega) (.int .i64 ((st1.i : Int) + 1)))).set5 (.int .i64 (-1)))
     have hR5 := hide (((((unhide hR4).drewN nq).other ⟨b, 1, none⟩ (by simp; omega) (.int .i64 ((st1.i : Int) + 1)))).other ⟨w.heap.size + 1, 5, none⟩ (by simp) (.int .i64 (-1)))
     have hO5 := hide ((((unhide hO4).drewN nq).mine 1 (.int .i64 ((st1.i : Int) + 1))).young ((Only.refl (Mine (w.heap.size + 1)) _).mine 5 (.int .i64 (-1))) (by omega))
     refine (now_abs b s (st1.go 1) _ (unhide hL5) hs).mono ?_
     rintro e w2 ⟨rfl, hON⟩
     simp only [St.go]
     have hLN := (unhide hL5).keep hON (fun f => f)
     have hTN := (unhide hT5).keep hON (fun f => f)
     have hRN := (unhide hR5).keep hON (fun f => f)
     have hOO := hide ((unhide hO5).trans (hON.mono (fun _ _ f => f.elim)))
     have hLL := hide hLN
     have hTT := hide hTN
     have hRR := hide hRN
     clear hON l0 l1 l2 l3 k1 k2 k3 t0 t1 t2 t3 t4 t5 v0 v1 v2 v3 v4 v5 r0 r1 r2 r3 r4 r5 u0 u1 u2 u3 u4 u5 hL5 hT5 hR5 hO5
     obtain ⟨l0, l1, l2, l3, k1, k2, k3⟩ := hLN
     obtain ⟨t0, t1, t2, t3, t4, t5, v0, v1, v2, v3, v4, v5⟩ := hTN
     obtain ⟨r0, r1, r2, r3, r4, r5, u0, u1, u2, u3, u4, u5⟩ := hRN
     have hgi : (st1.go 1).i ≤ 1000 := by simp only [St.go]; omega
     by_cases b2 : byteAt s (st1.i + 1) = 125
     · have bb2 : (byteAt s (st1.i + 1) == 125) = true := by simp [b2]
       have bb2' : (byteAt s (st1.i + 1) != 125) = false := by simp [b2]
       have HH : Hid (Ref.countsF s st = (mn, -1, (st1.go 1).go 1)) := Ref.countsF_fine (unhide H1) (by unfold Ref.restF; rw [if_pos ⟨unhide E1, b1⟩, if_pos b2]) (unhide E1) b2 (by omega)
       clear b1 b2
       go_wp2_with fail
       refine (now_lex b s (st1.go 1) _ (unhide hLL) hs).mono ?_
       rintro e w2 ⟨rfl, nq2, rfl⟩
       simp only [St.go]
       go_wp2_with fail
       refine bodyPost_ret (v := .agg #[.int .i64 6, .bool false, .slice none 0 0, .int .i64 0, .int .i64 mn, .int .i64 (-1)]) (by simp [results, Tryz.results122, go_sem, r0, r1, r2, r3, r4, r5]) rfl ?_
       rw [unhide HH]
       exact ⟨rfl, (((unhide hLL).drewN _).setI _ 1 (by simp only [St.go]; omega)).keep (Only.six w.heap.size _ _ _ _ _ _ _) (by unfold Mine; omega), (((unhide hOO).drewN _).mine 1 _).young (Only.six w.heap.size _ _ _ _ _ _ _) (Nat.le_refl _)⟩
     · have bb2' : (byteAt s (st1.i + 1) != 125) = true := by simp [b2]
       go_wp2_with fail
       refine (count_any b s (st1.go 1) _ (unhide hLL) hs (by simp only [St.go]; omega)).mono ?_
       rintro e w4 ⟨rfl, hL6, hO6⟩
       have hR6 := ((unhide hRR).keep hO6 (by unfold Mine; omega))
       have hT6 := ((unhide hTT).keep hO6 (by unfold Mine; omega))
       have HO6 := hide ((unhide hOO).trans hO6)
       have hcb := Ref.countF_bd s (st1.go 1)
       generalize hr : Ref.countF s (st1.go 1) = r at *
       obtain ⟨mx, st2⟩ := r
       simp only [] at *
       obtain ⟨n0, n1, n2, n3⟩ := hcb
       have n4 : st2.i ≤ s.size := n3 (by simp only [St.go]; omega)
       have H2 : Hid (Ref.restF s mn st1 = (mx, st2)) := by show _ = _; unfold Ref.restF; rw [if_pos ⟨unhide E1, b1⟩, if_neg b2, hr]
       clear hr n3 b1 b2 hO6
       have hL7 := hide (hL6.keep ((Only.refl (Mine (w.heap.size + 1)) w4).mine 5 (.int .i64 mx)) (by unfold Mine; omega))
       have hT7 := hide (hT6.set5 (.int .i64 mx))
       have hR7 := hide (hR6.other ⟨w.heap.size + 1, 5, none⟩ (by simp) (.int .i64 mx))
       have hO7 := hide ((unhide HO6).young ((Only.refl (Mine (w.heap.size + 1)) w4).mine 5 (.int .i64 mx)) (by omega))
       obtain ⟨a0, a1, a2, a3, a4, a5, x0, x1, x2, x3, x4, x5⟩ := hT6
       obtain ⟨g0, g1, g2, g3, g4, g5, y0, y1, y2, y3, y4, y5⟩ := hR6
       obtain ⟨z0, z1, z2, z3, j1, j2, j3⟩ := hL6
       clear l0 l1 l2 l3 k1 k2 k3 t0 t1 t2 t3 t4 t5 v0 v1 v2 v3 v4 v5 r0 r1 r2 r3 r4 r5 u0 u1 u2 u3 u4 u5
       by_cases e2 : st2.e = 0
       · have eb2 : (st2.e == 0) = true := by simp [e2]
         by_cases b3 : byteAt s st2.i = 125
         · have bb3 : (byteAt s st2.i != 125) = false := by simp [b3]
           by_cases hlt3 : mx < mn
           · have HH : Hid (Ref.countsF s st = (mn, mx, (st2.go 1).fail 4 st.i)) := Ref.countsF_turned (unhide H1) (unhide H2) e2 b3 ⟨n0, hlt3⟩
             clear e2 b3
             go_wp2_with fail
             refine (now_lex b s st2 _ (unhide hL7) hs).mono ?_
             rintro e w2 ⟨rfl, nq2, rfl⟩
             go_wp2_with fail
             have hL8 := ((unhide hL7).drewN nq2).setI ((st2.i : Int) + 1) 1 (by omega)
             refine (fail_lex b s (st2.go 1) 4 _ _ hL8).mono ?_
             rintro e w5 ⟨rfl, hL9, hO9⟩
             have hT9 := ((((unhide hT7).drewN nq2).other ⟨b, 1, none⟩ (by simp; omega) (.int .i64 ((st2.i : Int) + 1)))).keep hO9 (by unfold Mine; omega)
             have hR9 := ((((unhide hR7).drewN nq2).other ⟨b, 1, none⟩ (by simp; omega) (.int .i64 ((st2.i : Int) + 1)))).keep hO9 (by unfold Mine; omega)
             obtain ⟨p0, p1, p2, p3, p4, p5, o0, o1, o2, o3, o4, o5⟩ := hT9
             obtain ⟨d0, d1, d2, d3, d4, d5, i0, i1, i2, i3, i4, i5⟩ := hR9
             have HL9 := hide hL9
             have HO9 := hide ((((unhide hO7).drewN nq2).mine 1 (.int .i64 ((st2.i : Int) + 1))).trans hO9)
             clear hL9 hO9 hL8
             go_wp2_with fail
             refine bodyPost_ret (v := .agg #[.int .i64 6, .bool false, .slice none 0 0, .int .i64 0, .int .i64 mn, .int .i64 (mx)]) (by simp [results, Tryz.results122, go_sem, d0, d1, d2, d3, d4, d5]) rfl ?_
             rw [unhide HH]
             exact ⟨rfl, (unhide HL9).keep (Only.six w.heap.size _ _ _ _ _ _ _) (by unfold Mine; omega), (unhide HO9).young (Only.six w.heap.size _ _ _ _ _ _ _) (Nat.le_refl _)⟩
           · have HH : Hid (Ref.countsF s st = (mn, mx, (st2.go 1))) := Ref.countsF_fine (unhide H1) (unhide H2) e2 b3 (by omega)
             clear e2 b3
             go_wp2_with fail
             refine (now_lex b s st2 _ (unhide hL7) hs).mono ?_
             rintro e w2 ⟨rfl, nq2, rfl⟩
             go_wp2_with fail
             refine bodyPost_ret (v := .agg #[.int .i64 6, .bool false, .slice none 0 0, .int .i64 0, .int .i64 mn, .int .i64 (mx)]) (by simp [results, Tryz.results122, go_sem, g0, g1, g2, g3, g4, g5]) rfl ?_
             rw [unhide HH]
             exact ⟨rfl, (((unhide hL7).drewN nq2).setI _ 1 (by omega)).keep (Only.six w.heap.size _ _ _ _ _ _ _) (by unfold Mine; omega), (((unhide hO7).drewN nq2).mine 1 _).young (Only.six w.heap.size _ _ _ _ _ _ _) (Nat.le_refl _)⟩
         · have bb3 : (byteAt s st2.i != 125) = true := by simp [b3]
           have HH : Hid (Ref.countsF s st = (mn, mx, (st2.fail 3 st2.i).go 1)) := Ref.countsF_bad (unhide H1) (unhide H2) e2 b3
           have en : ((st2.fail 3 st2.i).e == 0) = false := by simp [Ref.fail_ne]
           clear e2 b3
           go_wp2_with fail
           refine (now_lex b s st2 _ (unhide hL7) hs).mono ?_
           rintro e w2 ⟨rfl, nq2, rfl⟩
           go_wp2_with fail
           refine (fail_lex b s st2 3 _ _ ((unhide hL7).drewN nq2)).mono ?_
           rintro e w5 ⟨rfl, hL9, hO9⟩
           have hT9 := ((unhide hT7).drewN nq2).keep hO9 (by unfold Mine; omega)
           have hR9 := ((unhide hR7).drewN nq2).keep hO9 (by unfold Mine; omega)
           obtain ⟨p0, p1, p2, p3, p4, p5, o0, o1, o2, o3, o4, o5⟩ := hT9
           obtain ⟨d0, d1, d2, d3, d4, d5, i0, i1, i2, i3, i4, i5⟩ := hR9
           have HL9 := hide hL9
           have HO9 := hide (((unhide hO7).drewN nq2).trans hO9)
           have hfi : (st2.fail 3 st2.i).i ≤ 400 := by rw [Ref.fail_i]; omega
           obtain ⟨zz0, zz1, zz2, zz3, jj1, jj2, jj3⟩ := hL9
           clear hO9
           go_wp2_with fail
           refine bodyPost_ret (v := .agg #[.int .i64 6, .bool false, .slice none 0 0, .int .i64 0, .int .i64 mn, .int .i64 (mx)]) (by simp [results, Tryz.results122, go_sem, d0, d1, d2, d3, d4, d5]) rfl ?_
           rw [unhide HH]
           exact ⟨rfl, ((unhide HL9).setI _ 1 (by omega)).keep (Only.six w.heap.size _ _ _ _ _ _ _) (by unfold Mine; omega), ((unhide HO9).mine 1 _).young (Only.six w.heap.size _ _ _ _ _ _ _) (Nat.le_refl _)⟩
       · have eb2 : (st2.e == 0) = false := by simp [e2]
         have HH : Hid (Ref.countsF s st = (mn, mx, st2.go 1)) := Ref.countsF_dead (unhide H1) (unhide H2) e2
         clear e2
         go_wp2_with fail
         refine bodyPost_ret (v := .agg #[.int .i64 6, .bool false, .slice none 0 0, .int .i64 0, .int .i64 mn, .int .i64 (mx)]) (by simp [results, Tryz.results122, go_sem, g0, g1, g2, g3, g4, g5]) rfl ?_
         rw [unhide HH]
         exact ⟨rfl, ((unhide hL7).setI _ 1 (by omega)).keep (Only.six w.heap.size _ _ _ _ _ _ _) (by unfold Mine; omega), ((unhide hO7).mine 1 _).young (Only.six w.heap.size _ _ _ _ _ _ _) (Nat.le_refl _)⟩
   · have bb : (byteAt s st1.i == 44) = false := by simp [b1]
     have H2 : Hid (Ref.restF s mn st1 = (mn, st1)) := by show _ = _; unfold Ref.restF; rw [if_neg (by intro hh; exact b1 hh.2)]
     clear b1
     go_wp2_with fail
     refine (now_lex b s st1 _ (unhide hL4) hs).mono ?_
     rintro e w2 ⟨rfl, nq, rfl⟩
     by_cases b3 : byteAt s st1.i = 125
     · have bb3 : (byteAt s st1.i != 125) = false := by simp [b3]
       have HH : Hid (Ref.countsF s st = (mn, mn, (st1.go 1))) := Ref.countsF_fine (unhide H1) (unhide H2) (unhide E1) b3 (by omega)
       clear b3
       go_wp2_with fail
       refine (now_lex b s st1 _ ((unhide hL4).drewN nq) hs).mono ?_
       rintro e w2 ⟨rfl, nq2, rfl⟩
       go_wp2_with fail
       refine bodyPost_ret (v := .agg #[.int .i64 6, .bool false, .slice none 0 0, .int .i64 0, .int .i64 mn, .int .i64 (mn)]) (by simp [results, Tryz.results122, go_sem, r0, r1, r2, r3, r4, r5]) rfl ?_
       rw [unhide HH]
       exact ⟨rfl, (((unhide hL4).drewN _).setI _ 1 (by omega)).keep (Only.six w.heap.size _ _ _ _ _ _ _) (by unfold Mine; omega), (((unhide hO4).drewN _).mine 1 _).young (Only.six w.heap.size _ _ _ _ _ _ _) (Nat.le_refl _)⟩
     · have bb3 : (byteAt s st1.i != 125) = true := by simp [b3]
       have HH : Hid (Ref.countsF s st = (mn, mn, (st1.fail 3 st1.i).go 1)) := Ref.countsF_bad (unhide H1) (unhide H2) (unhide E1) b3
       have en : ((st1.fail 3 st1.i).e == 0) = false := by simp [Ref.fail_ne]
       clear b3
       go_wp2_with fail
       refine (now_lex b s st1 _ ((unhide hL4).drewN nq) hs).mono ?_
       rintro e w2 ⟨rfl, nq2, rfl⟩
       go_wp2_with fail
       refine (fail_lex b s st1 3 _ _ ((unhide hL4).drewN _)).mono ?_
       rintro e w5 ⟨rfl, hL9, hO9⟩
       have hT9 := ((unhide hT4).drewN _).keep hO9 (by unfold Mine; omega)
       have hR9 := ((unhide hR4).drewN _).keep hO9 (by unfold Mine; omega)
       obtain ⟨p0, p1, p2, p3, p4, p5, o0, o1, o2, o3, o4, o5⟩ := hT9
       obtain ⟨d0, d1, d2, d3, d4, d5, i0, i1, i2, i3, i4, i5⟩ := hR9
       have HL9 := hide hL9
       have HO9 := hide (((unhide hO4).drewN _).trans hO9)
       have hfi : (st1.fail 3 st1.i).i ≤ 400 := by rw [Ref.fail_i]; omega
       obtain ⟨zz0, zz1, zz2, zz3, jj1, jj2, jj3⟩ := hL9
       clear hO9
       go_wp2_with fail
       refine bodyPost_ret (v := .agg #[.int .i64 6, .bool false, .slice none 0 0, .int .i64 0, .int .i64 mn, .int .i64 (mn)]) (by simp [results, Tryz.results122, go_sem, d0, d1, d2, d3, d4, d5]) rfl ?_
       rw [unhide HH]
       exact ⟨rfl, ((unhide HL9).setI _ 1 (by omega)).keep (Only.six w.heap.size _ _ _ _ _ _ _) (by unfold Mine; omega), ((unhide HO9).mine 1 _).young (Only.six w.heap.size _ _ _ _ _ _ _) (Nat.le_refl _)⟩
 · have eb : (st1.e == 0) = false := by simp [e1]
   have HH : Hid (Ref.countsF s st = (mn, mn, st1.go 1)) := Ref.countsF_dead (unhide H1) (by unfold Ref.restF; rw [if_neg (by intro hh; exact e1 hh.1)]) e1
   clear e1
   go_wp2_with fail
   refine bodyPost_ret (v := .agg #[.int .i64 6, .bool false, .slice none 0 0, .int .i64 0, .int .i64 mn, .int .i64 (mn)]) (by simp [results, Tryz.results122, go_sem, r0, r1, r2, r3, r4, r5]) rfl ?_
   rw [unhide HH]
   exact ⟨rfl, ((unhide hL4).setI _ 1 (by omega)).keep (Only.six w.heap.size _ _ _ _ _ _ _) (by unfold Mine; omega), ((unhide hO4).mine 1 _).young (Only.six w.heap.size _ _ _ _ _ _ _) (Nat.le_refl _)⟩
end Go.Proofs.YtnagphodmfejiaaGreatDoor
namespace Go.Proofs.YtnagphodmfejiaaGreatDoor
open Go.RowKit
namespace Ref
theorem restF_i (s : ByteArray) (mn : Int) (st : St) (h : st.i ≤ s.size) : (restF s mn st).2.i ≤ s.size + 1 := by
 unfold restF
 split
 · rename_i hh
   have hlt : st.i < s.size := by rw [← byteAt_nonneg]; omega
   split
   · simp only [St.go]; omega
   · have := (countF_bd s (st.go 1)).2.2.2 (by simp only [St.go]; omega); omega
 · simp only []; omega
theorem countsF_i (s : ByteArray) (st : St) (h : st.i < s.size) : (countsF s st).2.2.i ≤ s.size + 2 := by
 have h1 := (countF_bd s (st.go 1)).2.2.2 (by simp only [St.go]; omega)
 have h2 := restF_i s (countF s (st.go 1)).1 _ h1
 have h3 : ∀ st', (braceF s st').i = st'.i := by intro st'; unfold braceF; split; exact fail_i _ _ _; rfl
 unfold countsF
 dsimp only
 have h4 : ∀ st' : St, ((braceF s st').go 1).i = st'.i + 1 := by intro st'; show (braceF s st').i + 1 = _; rw [h3]
 split
 · rw [fail_i, h4]; omega
 · rw [h4]; omega
end Ref
set_option maxHeartbeats 1600000 in
theorem quantifier_any (b : Nat) (s : ByteArray) (st : St) (w : World) (h : Lex w b s st) (hs : s.size ≤ 400) (hi : st.i < s.size) (he : st.e = 0) :
   Calls Tryz.prog 70 #[.pointer (some ⟨b, 0, none⟩)] w fun x w' =>
     x = .returned (.agg #[.int .i64 6, .bool false, .slice none 0 0, .int .i64 0, .int .i64 (Ref.quantF s st).1, .int .i64 (Ref.quantF s st).2.1]) ∧ Lex w' b s (Ref.quantF s st).2.2 ∧ Only (Mine b) w w' := by
 have hL1 := hide h
 have hlt := h.lt
 have HE := hide he
 have eb : (st.e == 0) = true := by simp [he]
 clear he
 have hL2 := hide (((unhide hL1).alloc (.cells #[.int .i64 0, .bool false, .slice none 0 0, .int .i64 0, .int .i64 0, .int .i64 0] 178)).alloc (.cells #[.int .i64 6, .bool false, .slice none 0 0, .int .i64 0, .int .i64 0, .int .i64 (-1)] 178))
 have hR2 := hide ((Six.new (n := w.heap.size) (a0 := .int .i64 0) (a1 := .bool false) (a2 := .slice none 0 0) (a3 := .int .i64 0) (a4 := .int .i64 0) (a5 := .int .i64 0) w 178 rfl).keep ((Only.refl (fun _ => False) _).alloc (.cells #[.int .i64 6, .bool false, .slice none 0 0, .int .i64 0, .int .i64 0, .int .i64 (-1)] 178)) (fun f => f))
 have hT2 := hide (Six.new (n := w.heap.size + 1) (a0 := .int .i64 6) (a1 := .bool false) (a2 := .slice none 0 0) (a3 := .int .i64 0) (a4 := .int .i64 0) (a5 := .int .i64 (-1)) (w.alloc (.cells #[.int .i64 0, .bool false, .slice none 0 0, .int .i64 0, .int .i64 0, .int .i64 0] 178)) 178 (by simp))
 have hO2 := hide (((Only.refl (Mine b) w).alloc (.cells #[.int .i64 0, .bool false, .slice none 0 0, .int .i64 0, .int .i64 0, .int .i64 0] 178)).alloc (.cells #[.int .i64 6, .bool false, .slice none 0 0, .int .i64 0, .int .i64 0, .int .i64 (-1)] 178))
 clear h
 go_enter Tryz.func70, Tryz.ntmps70
 go_wp2_with fail
 refine (now_abs b s st _ (unhide hL2) hs).mono ?_
 rintro e w1 ⟨rfl, hON⟩
 have hLN := (unhide hL2).keep hON (fun f => f)
 have hTN := (unhide hT2).keep hON (fun f => f)
 have hRN := (unhide hR2).keep hON (fun f => f)
 have hOO := hide ((unhide hO2).trans (hON.mono (fun _ _ f => f.elim)))
 have hLL := hide hLN
 have hTT := hide hTN
 have hRR := hide hRN
 clear hON hL2 hT2 hR2 hO2
 obtain ⟨l0, l1, l2, l3, k1, k2, k3⟩ := hLN
 obtain ⟨t0, t1, t2, t3, t4, t5, v0, v1, v2, v3, v4, v5⟩ := hTN
 obtain ⟨r0, r1, r2, r3, r4, r5, u0, u1, u2, u3, u4, u5⟩ := hRN
 by_cases x1 : byteAt s st.i = 43
 · have y1 : (byteAt s st.i == 43) = true := by simp [x1]
   have eb' : ((st.go 1).e == 0) = true := by simp [St.go, unhide HE]
   go_wp2_with fail
   have hL5 := hide (((unhide hLL).keep ((Only.refl (Mine (w.heap.size + 1)) w1).mine 4 (.int .i64 1)) (by unfold Mine; omega)).setI ((st.i : Int) + 1) 1 (by omega))
   have hO5 := hide (((unhide hOO).young ((Only.refl (Mine (w.heap.size + 1)) w1).mine 4 (.int .i64 1)) (by omega)).mine 1 (.int .i64 ((st.i : Int) + 1)))
   refine (now_lex b s (st.go 1) _ (unhide hL5) hs).mono ?_
   rintro e w2 ⟨rfl, nq, rfl⟩
   simp only [St.go]
   by_cases b2 : byteAt s (st.i + 1) = 63
   · have bb2 : (byteAt s (st.i + 1) == 63) = true := by simp [b2]
     have HH : Hid (Ref.quantF s st = (1, -1, (st.go 1).go 1)) := by show _ = _; unfold Ref.quantF Ref.lazyF; rw [if_pos x1, if_pos ⟨by simp [St.go, unhide HE], b2⟩]
     clear x1 b2
     go_wp2_with fail
     refine bodyPost_ret (v := .agg #[.int .i64 6, .bool false, .slice none 0 0, .int .i64 0, .int .i64 (1), .int .i64 (-1)]) (by simp [results, Tryz.results70, go_sem, r0, r1, r2, r3, r4, r5]) rfl ?_
     rw [unhide HH]
     exact ⟨rfl, (((unhide hL5).drewN nq).setI _ 1 (by simp only [St.go]; omega)).keep (Only.six w.heap.size _ _ _ _ _ _ _) (by unfold Mine; omega), (((unhide hO5).drewN nq).mine 1 _).young (Only.six w.heap.size _ _ _ _ _ _ _) (Nat.le_refl _)⟩
   · have bb2 : (byteAt s (st.i + 1) == 63) = false := by simp [b2]
     have HH : Hid (Ref.quantF s st = (1, -1, st.go 1)) := by show _ = _; unfold Ref.quantF Ref.lazyF; rw [if_pos x1, if_neg (by intro hh; exact b2 hh.2)]
     clear x1 b2
     go_wp2_with fail
     refine bodyPost_ret (v := .agg #[.int .i64 6, .bool false, .slice none 0 0, .int .i64 0, .int .i64 (1), .int .i64 (-1)]) (by simp [results, Tryz.results70, go_sem, r0, r1, r2, r3, r4, r5]) rfl ?_
     rw [unhide HH]
     exact ⟨rfl, ((unhide hL5).drewN nq).keep (Only.six w.heap.size _ _ _ _ _ _ _) (by unfold Mine; omega), ((unhide hO5).drewN nq).young (Only.six w.heap.size _ _ _ _ _ _ _) (Nat.le_refl _)⟩
 · have y1 : (byteAt s st.i == 43) = false := by simp [x1]
   by_cases x2 : byteAt s st.i = 63
   · have y2 : (byteAt s st.i == 63) = true := by simp [x2]
     have eb' : ((st.go 1).e == 0) = true := by simp [St.go, unhide HE]
     go_wp2_with fail
     have hL5 := hide (((unhide hLL).keep ((Only.refl (Mine (w.heap.size + 1)) w1).mine 5 (.int .i64 1)) (by unfold Mine; omega)).setI ((st.i : Int) + 1) 1 (by omega))
     have hO5 := hide (((unhide hOO).young ((Only.refl (Mine (w.heap.size + 1)) w1).mine 5 (.int .i64 1)) (by omega)).mine 1 (.int .i64 ((st.i : Int) + 1)))
     refine (now_lex b s (st.go 1) _ (unhide hL5) hs).mono ?_
     rintro e w2 ⟨rfl, nq, rfl⟩
     simp only [St.go]
     by_cases b2 : byteAt s (st.i + 1) = 63
     · have bb2 : (byteAt s (st.i + 1) == 63) = true := by simp [b2]
       have HH : Hid (Ref.quantF s st = (0, 1, (st.go 1).go 1)) := by show _ = _; unfold Ref.quantF Ref.lazyF; rw [if_neg x1, if_pos x2, if_pos ⟨by simp [St.go, unhide HE], b2⟩]
       clear x1 x2 b2
       go_wp2_with fail
       refine bodyPost_ret (v := .agg #[.int .i64 6, .bool false, .slice none 0 0, .int .i64 0, .int .i64 (0), .int .i64 (1)]) (by simp [results, Tryz.results70, go_sem, r0, r1, r2, r3, r4, r5]) rfl ?_
       rw [unhide HH]
       exact ⟨rfl, (((unhide hL5).drewN nq).setI _ 1 (by simp only [St.go]; omega)).keep (Only.six w.heap.size _ _ _ _ _ _ _) (by unfold Mine; omega), (((unhide hO5).drewN nq).mine 1 _).young (Only.six w.heap.size _ _ _ _ _ _ _) (Nat.le_refl _)⟩
     · have bb2 : (byteAt s (st.i + 1) == 63) = false := by simp [b2]
       have HH : Hid (Ref.quantF s st = (0, 1, st.go 1)) := by show _ = _; unfold Ref.quantF Ref.lazyF; rw [if_neg x1, if_pos x2, if_neg (by intro hh; exact b2 hh.2)]
       clear x1 x2 b2
       go_wp2_with fail
       refine bodyPost_ret (v := .agg #[.int .i64 6, .bool false, .slice none 0 0, .int .i64 0, .int .i64 (0), .int .i64 (1)]) (by simp [results, Tryz.results70, go_sem, r0, r1, r2, r3, r4, r5]) rfl ?_
       rw [unhide HH]
       exact ⟨rfl, ((unhide hL5).drewN nq).keep (Only.six w.heap.size _ _ _ _ _ _ _) (by unfold Mine; omega), ((unhide hO5).drewN nq).young (Only.six w.heap.size _ _ _ _ _ _ _) (Nat.le_refl _)⟩
   · have y2 : (byteAt s st.i == 63) = false := by simp [x2]
     by_cases x3 : byteAt s st.i = 42
     · have y3 : (byteAt s st.i == 42) = true := by simp [x3]
       have eb' : ((st.go 1).e == 0) = true := by simp [St.go, unhide HE]
       go_wp2_with fail
       have hL5 := hide (((unhide hLL)).setI ((st.i : Int) + 1) 1 (by omega))
       have hO5 := hide (((unhide hOO)).mine 1 (.int .i64 ((st.i : Int) + 1)))
       refine (now_lex b s (st.go 1) _ (unhide hL5) hs).mono ?_
       rintro e w2 ⟨rfl, nq, rfl⟩
       simp only [St.go]
       by_cases b2 : byteAt s (st.i + 1) = 63
       · have bb2 : (byteAt s (st.i + 1) == 63) = true := by simp [b2]
         have HH : Hid (Ref.quantF s st = (0, -1, (st.go 1).go 1)) := by show _ = _; unfold Ref.quantF Ref.lazyF; rw [if_neg x1, if_neg x2, if_pos x3, if_pos ⟨by simp [St.go, unhide HE], b2⟩]
         clear x1 x2 x3 b2
         go_wp2_with fail
         refine bodyPost_ret (v := .agg #[.int .i64 6, .bool false, .slice none 0 0, .int .i64 0, .int .i64 (0), .int .i64 (-1)]) (by simp [results, Tryz.results70, go_sem, r0, r1, r2, r3, r4, r5]) rfl ?_
         rw [unhide HH]
         exact ⟨rfl, (((unhide hL5).drewN nq).setI _ 1 (by simp only [St.go]; omega)).keep (Only.six w.heap.size _ _ _ _ _ _ _) (by unfold Mine; omega), (((unhide hO5).drewN nq).mine 1 _).young (Only.six w.heap.size _ _ _ _ _ _ _) (Nat.le_refl _)⟩
       · have bb2 : (byteAt s (st.i + 1) == 63) = false := by simp [b2]
         have HH : Hid (Ref.quantF s st = (0, -1, st.go 1)) := by show _ = _; unfold Ref.quantF Ref.lazyF; rw [if_neg x1, if_neg x2, if_pos x3, if_neg (by intro hh; exact b2 hh.2)]
         clear x1 x2 x3 b2
         go_wp2_with fail
         refine bodyPost_ret (v := .agg #[.int .i64 6, .bool false, .slice none 0 0, .int .i64 0, .int .i64 (0), .int .i64 (-1)]) (by simp [results, Tryz.results70, go_sem, r0, r1, r2, r3, r4, r5]) rfl ?_
         rw [unhide HH]
         exact ⟨rfl, ((unhide hL5).drewN nq).keep (Only.six w.heap.size _ _ _ _ _ _ _) (by unfold Mine; omega), ((unhide hO5).drewN nq).young (Only.six w.heap.size _ _ _ _ _ _ _) (Nat.le_refl _)⟩
     · have y3 : (byteAt s st.i == 42) = false := by simp [x3]
       have HQ : Hid (Ref.quantF s st = ((Ref.countsF s st).1, (Ref.countsF s st).2.1, Ref.lazyF s (Ref.countsF s st).2.2)) := by show _ = _; unfold Ref.quantF; rw [if_neg x1, if_neg x2, if_neg x3]
       clear x1 x2 x3
       go_wp2_with fail
       refine (counts_any b s st _ (unhide hLL) hs hi).mono ?_
       rintro e w3 ⟨rfl, hL6, hO6⟩
       have hR6 := (unhide hRR).keep hO6 (by unfold Mine; omega)
       have hT6 := (unhide hTT).keep hO6 (by unfold Mine; omega)
       have hi2 := Ref.countsF_i s st hi
       generalize hr : Ref.countsF s st = r at *
       obtain ⟨mn, mx, st2⟩ := r
       simp only [] at *
       have hL7 := hide (hL6.keep (Only.six (w.heap.size + 1) w3 (.int .i64 6) (.bool false) (.slice none 0 0) (.int .i64 0) (.int .i64 mn) (.int .i64 mx)) (by unfold Mine; omega))
       have hO7 := hide (((unhide hOO).trans hO6).young (Only.six (w.heap.size + 1) w3 (.int .i64 6) (.bool false) (.slice none 0 0) (.int .i64 0) (.int .i64 mn) (.int .i64 mx)) (by omega))
       obtain ⟨a0, a1, a2, a3, a4, a5, c0, c1, c2, c3, c4, c5⟩ := hT6
       obtain ⟨g0, g1, g2, g3, g4, g5, d0, d1, d2, d3, d4, d5⟩ := hR6
       obtain ⟨z0, z1, z2, z3, j1, j2, j3⟩ := hL6
       clear hO6 hr l0 l1 l2 l3 k1 k2 k3 t0 t1 t2 t3 t4 t5 v0 v1 v2 v3 v4 v5 r0 r1 r2 r3 r4 r5 u0 u1 u2 u3 u4 u5
       by_cases e2 : st2.e = 0
       · have eb2 : (st2.e == 0) = true := by simp [e2]
         by_cases b2 : byteAt s st2.i = 63
         · have bb2 : (byteAt s st2.i == 63) = true := by simp [b2]
           have HH : Hid (Ref.quantF s st = (mn, mx, st2.go 1)) := by rw [unhide HQ]; show _ = _; unfold Ref.lazyF; rw [if_pos ⟨e2, b2⟩]
           clear e2 b2
           go_wp2_with fail
           refine (now_lex b s st2 _ (unhide hL7) hs).mono ?_
           rintro e w2 ⟨rfl, nq, rfl⟩
           go_wp2_with fail
           refine bodyPost_ret (v := .agg #[.int .i64 6, .bool false, .slice none 0 0, .int .i64 0, .int .i64 (mn), .int .i64 (mx)]) (by simp [results, Tryz.results70, go_sem, g0, g1, g2, g3, g4, g5]) rfl ?_
           rw [unhide HH]
           exact ⟨rfl, (((unhide hL7).drewN nq).setI _ 1 (by omega)).keep (Only.six w.heap.size _ _ _ _ _ _ _) (by unfold Mine; omega), (((unhide hO7).drewN nq).mine 1 _).young (Only.six w.heap.size _ _ _ _ _ _ _) (Nat.le_refl _)⟩
         · have bb2 : (byteAt s st2.i == 63) = false := by simp [b2]
           have HH : Hid (Ref.quantF s st = (mn, mx, st2)) := by rw [unhide HQ]; show _ = _; unfold Ref.lazyF; rw [if_neg (by intro hh; exact b2 hh.2)]
           clear e2 b2
           go_wp2_with fail
           refine (now_lex b s st2 _ (unhide hL7) hs).mono ?_
           rintro e w2 ⟨rfl, nq, rfl⟩
           go_wp2_with fail
           refine bodyPost_ret (v := .agg #[.int .i64 6, .bool false, .slice none 0 0, .int .i64 0, .int .i64 (mn), .int .i64 (mx)]) (by simp [results, Tryz.results70, go_sem, g0, g1, g2, g3, g4, g5]) rfl ?_
           rw [unhide HH]
           exact ⟨rfl, ((unhide hL7).drewN nq).keep (Only.six w.heap.size _ _ _ _ _ _ _) (by unfold Mine; omega), ((unhide hO7).drewN nq).young (Only.six w.heap.size _ _ _ _ _ _ _) (Nat.le_refl _)⟩
       · have eb2 : (st2.e == 0) = false := by simp [e2]
         have HH : Hid (Ref.quantF s st = (mn, mx, st2)) := by rw [unhide HQ]; show _ = _; unfold Ref.lazyF; rw [if_neg (by intro hh; exact e2 hh.1)]
         clear e2
         go_wp2_with fail
         refine bodyPost_ret (v := .agg #[.int .i64 6, .bool false, .slice none 0 0, .int .i64 0, .int .i64 (mn), .int .i64 (mx)]) (by simp [results, Tryz.results70, go_sem, g0, g1, g2, g3, g4, g5]) rfl ?_
         rw [unhide HH]
         exact ⟨rfl, (unhide hL7).keep (Only.six w.heap.size _ _ _ _ _ _ _) (by unfold Mine; omega), (unhide hO7).young (Only.six w.heap.size _ _ _ _ _ _ _) (Nat.le_refl _)⟩
namespace Ref
def Fine (s : ByteArray) (st : St) : Prop := st.i ≤ s.size ∧ (st.e = 0 → Good s st.i)
theorem Fine.fail {s : ByteArray} {st : St} {e a : Int} (h : st.i ≤ s.size) (he : e ≠ 0) : Fine s (st.fail e a) :=
 ⟨by rw [fail_i]; exact h, fun h0 => absurd h0 (fail_ne st e a he)⟩
theorem hexV_ascii {b : Int} (h : 0 ≤ hexV b) : 0 ≤ b ∧ b < 128 := by unfold hexV at h; (repeat' split at h) <;> omega
theorem hexF_fine (s : ByteArray) : ∀ (n : Nat) (c : Int) (st : St), Good s st.i → Fine s (hexF s n c st).2 ∧ st.i ≤ (hexF s n c st).2.i
 | 0, c, st, h => ⟨⟨h.le, fun _ => h⟩, Nat.le_refl _⟩
 | n + 1, c, st, h => by
   by_cases hb : hexV (byteAt s st.i) < 0
   · rw [hexF_bad hb]
     exact ⟨Fine.fail h.le (by decide), by rw [fail_i]; exact Nat.le_refl _⟩
   · rw [hexF_good (by omega)]
     have ha := hexV_ascii (b := byteAt s st.i) (by omega)
     have := hexF_fine s n (16 * c + hexV (byteAt s st.i)) (st.go 1) (h.ascii ha.1 ha.2)
     exact ⟨this.1, by have := this.2; simp only [St.go] at this ⊢; omega⟩
theorem bracedF_fine (s : ByteArray) : ∀ (f : Nat) (c : Int) (n : Nat) (st : St), Good s st.i → Fine s (bracedF s f c n st).2 ∧ st.i ≤ (bracedF s f c n st).2.i
 | 0, c, n, st, h => ⟨⟨h.le, fun _ => h⟩, Nat.le_refl _⟩
 | f + 1, c, n, st, h => by
   by_cases hc : 0 < n ∧ byteAt s st.i = 125
   · rw [bracedF_close hc.1 hc.2]
     have hg := h.ascii (by omega) (by omega)
     exact ⟨⟨hg.le, fun _ => hg⟩, by simp only [St.go]; omega⟩
   · by_cases hb : hexV (byteAt s st.i) < 0 ∨ 1114111 < 16 * c + hexV (byteAt s st.i)
     · rw [bracedF_bad hc hb]
       exact ⟨Fine.fail h.le (by decide), by rw [fail_i]; exact Nat.le_refl _⟩
     · rw [bracedF_good hc hb]
       have ha := hexV_ascii (b := byteAt s st.i) (by omega)
       have := bracedF_fine s f (16 * c + hexV (byteAt s st.i)) (n + 1) (st.go 1) (h.ascii ha.1 ha.2)
       exact ⟨this.1, by have := this.2; simp only [St.go] at this ⊢; omega⟩
theorem halfD_digits (s : ByteArray) : ∀ (n k : Nat) (c : Int), 0 ≤ c → 0 ≤ halfD s n k c → Good s k → Good s (k + n)
 | 0, k, c, _, _, h => h
 | n + 1, k, c, h0, h1, h => by
   by_cases hb : hexV (byteAt s k) < 0
   · rw [halfD_bad hb] at h1; omega
   · rw [halfD_good (by omega)] at h1
     have ha := hexV_ascii (b := byteAt s k) (by omega)
     have := halfD_digits s n (k + 1) _ (by omega) h1 (h.ascii ha.1 ha.2)
     rw [show k + (n + 1) = k + 1 + n by omega]; exact this
theorem halfF_six {s : ByteArray} {i : Nat} (h : 0 ≤ halfF s i) (hg : Good s i) : Good s (i + 6) ∧ byteAt s i = 92 ∧ byteAt s (i + 1) = 117 := by
 unfold halfF at h
 split at h
 · omega
 · rename_i hn
   have h1 : byteAt s i = 92 := by omega
   have h2 : byteAt s (i + 1) = 117 := by omega
   have g1 := hg.ascii (by omega) (by omega)
   have g2 := g1.ascii (by omega) (by omega)
   exact ⟨halfD_digits s 4 (i + 2) 0 (by omega) h g2, h1, h2⟩
theorem unicodeF_fine {s : ByteArray} {st : St} (h1 : 1 ≤ st.i) (hg : Good s (st.i - 1)) (hb : byteAt s (st.i - 1) = 92) (hu : byteAt s st.i = 117) : Fine s (unicodeF s st).2 ∧ st.i ≤ (unicodeF s st).2.i := by
 have g0 : Good s st.i := by have := hg.ascii (by omega) (by omega); rwa [show st.i - 1 + 1 = st.i by omega] at this
 have g1 := g0.ascii (by omega) (by omega)
 unfold unicodeF
 split
 · rename_i h
   have g2 := g1.ascii (by omega) (by omega)
   have := bracedF_fine s (s.size + 1 - (st.go 2).i) 0 0 (st.go 2) g2
   exact ⟨this.1, by have := this.2; simp only [St.go, bracedR] at this ⊢; omega⟩
 · split
   · rename_i h
     simp only [pairB, Bool.and_eq_true, decide_eq_true_eq] at h
     have a1 := (halfF_six (by omega) hg).1
     rw [show st.i - 1 + 6 = st.i + 5 by omega] at a1
     have a2 := (halfF_six (by omega) a1).1
     exact ⟨⟨a2.le, fun _ => a2⟩, by simp only [St.go]; omega⟩
   · have := hexF_fine s 4 0 (st.go 1) g1
     exact ⟨this.1, by have := this.2; simp only [St.go] at this ⊢; omega⟩
theorem signB_ascii {b : Int} (h : signB b = true) : 0 ≤ b ∧ b < 128 := by
 simp [signB] at h; omega
theorem numberF_fine {s : ByteArray} {cls : Bool} {st : St} (h1 : 1 ≤ st.i) (hg : Good s (st.i - 1)) (hb : byteAt s (st.i - 1) = 92) : Fine s (numberF s cls st).2 ∧ st.i ≤ (numberF s cls st).2.i := by
 have g0 : Good s st.i := by have := hg.ascii (by omega) (by omega); rwa [show st.i - 1 + 1 = st.i by omega] at this
 have step : 0 ≤ byteAt s st.i → byteAt s st.i < 128 → Fine s (st.go 1) ∧ st.i ≤ (st.go 1).i := fun a b => ⟨⟨(g0.ascii a b).le, fun _ => g0.ascii a b⟩, by simp only [St.go]; omega⟩
 unfold numberF
 split
 · rename_i h
   have : 0 ≤ byteAt s st.i ∧ byteAt s st.i < 128 := by unfold controlV at h; (repeat' split at h) <;> omega
   exact step this.1 this.2
 split
 · have hs := step (by omega) (by omega)
   dsimp only
   split
   · exact ⟨Fine.fail hs.1.1 (by decide), by rw [fail_i]; exact hs.2⟩
   · exact hs
 split
 · have hs := step (by omega) (by omega)
   have g1 := g0.ascii (by omega) (by omega)
   split
   · have g2 := g1.ascii (by omega) (by omega)
     exact ⟨⟨g2.le, fun _ => g2⟩, by simp only [St.go]; omega⟩
   · exact ⟨Fine.fail hs.1.1 (by decide), by rw [fail_i]; exact hs.2⟩
 split
 · have g1 := g0.ascii (by omega) (by omega)
   have := hexF_fine s 2 0 (st.go 1) g1
   exact ⟨this.1, by have := this.2; simp only [St.go] at this ⊢; omega⟩
 split
 · rename_i h
   exact unicodeF_fine h1 hg hb h
 split
 · rename_i h
   have : 0 ≤ byteAt s st.i ∧ byteAt s st.i < 128 := by
     rcases h with h | h
     · exact signB_ascii h
     · omega
   exact step this.1 this.2
 split
 · exact step (by omega) (by omega)
 · exact ⟨Fine.fail g0.le (by decide), by rw [fail_i]; exact Nat.le_refl _⟩
theorem setL_ascii {b : Int} (h : setL b ≠ []) : 0 ≤ b ∧ b < 128 := by
 unfold setL at h; (repeat' split at h) <;> first | omega | simp at h
theorem escapeF_fine {s : ByteArray} {cls : Bool} {st : St} (hg : Good s st.i) (hb : byteAt s st.i = 92) : Fine s (escapeF s cls st).2.2 ∧ st.i < (escapeF s cls st).2.2.i := by
 have g1 := hg.ascii (by omega) (by omega)
 unfold escapeF
 split
 · exact ⟨Fine.fail g1.le (by decide), by rw [fail_i]; simp only [St.go]; omega⟩
 split
 · rename_i h
   have ha := setL_ascii h
   have g2 := g1.ascii ha.1 ha.2
   exact ⟨⟨g2.le, fun _ => g2⟩, by simp only [St.go]; omega⟩
 · have := numberF_fine (cls := cls) (st := st.go 1) (by simp only [St.go]; omega) (by simp only [St.go, Nat.add_sub_cancel]; exact hg) (by simp only [St.go, Nat.add_sub_cancel]; exact hb)
   exact ⟨this.1, by have := this.2; simp only [St.go] at this ⊢; omega⟩
theorem memberF_fine {s : ByteArray} {st : St} (hg : Good s st.i) (hi : st.i < s.size) : Fine s (memberF s st).2.2 ∧ st.i < (memberF s st).2.2.i := by
 unfold memberF
 split
 · rename_i h; exact escapeF_fine hg h
 · obtain ⟨n, c, ho, hn⟩ := hg.next hi
   rw [ho]
   have hb := oneF_bd ho
   exact ⟨⟨hn.le, fun _ => hn⟩, by simp only [St.go]; omega⟩
theorem escapeF_one {s : ByteArray} {cls : Bool} {st : St} (h : (escapeF s cls st).2.1 = true) (he : (escapeF s cls st).2.2.e = 0) : ∃ c, (escapeF s cls st).1.spans = [(c, c)] := by
 unfold escapeF at *
 split
 · rename_i hb
   rw [if_pos hb] at he
   exact absurd he (fail_ne _ _ _ (by decide))
 · rename_i hb
   rw [if_neg hb] at h he
   split
   · rename_i h2; rw [if_pos h2] at h; simp at h
   · exact ⟨_, rfl⟩
theorem memberF_one {s : ByteArray} {st : St} (hg : Good s st.i) (hi : st.i < s.size) (h : (memberF s st).2.1 = true) (he : (memberF s st).2.2.e = 0) : ∃ c, (memberF s st).1.spans = [(c, c)] := by
 unfold memberF at *
 split
 · rename_i hb
   rw [if_pos hb] at h he
   exact escapeF_one h he
 · obtain ⟨n, c, ho, hn⟩ := hg.next hi
   rw [ho]; exact ⟨c, rfl⟩
end Ref
end Go.Proofs.YtnagphodmfejiaaGreatDoor
