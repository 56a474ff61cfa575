/- The reference's sets, and its escapes. The reference's escapes. The reference's characters of a text. Texts: where characters begin. Plain facts on bytes. The reference's plain characters, and members of a class. -/
import Derived.Test.YtnagphodmfejiaaGreatDoorKRefARefE
import Derived.WalkSpells
import Derived.Lib.Strings
import Derived.Lib.IndexBytes
namespace Go.Proofs.YtnagphodmfejiaaGreatDoor
open Go.RowKit
def spanCells : List (Int × Int) → List Value
 | [] => []
 | (a, b) :: r => .int .i64 a :: .int .i64 b :: spanCells r
def SpansAt (w : World) (base : Nat) (v : Value) (l : List (Int × Int)) : Prop := w.ownsRow base 271 2 v l.length (spanCells l)
theorem spans_new (w : World) (c : Array Value) (l : List (Int × Int)) (hc : c.toList = spanCells l) (hl : spanCells l = spanCells l → (spanCells l).length = l.length * 2) (hm : l.length ≤ maxLen) :
   SpansAt (w.alloc (.cells c 271)) w.heap.size (.slice (some ⟨w.heap.size, 0, none⟩) l.length l.length) l := by
 have hl' := hl rfl
 refine ⟨hl', .inr ⟨w.heap.size, l.length, c, rfl, Nat.le_refl _, heap_alloc_new w _, Nat.le_refl _, hm, ?_, ?_⟩⟩
 · rw [← hl', ← hc]; simp
 · rw [hc, List.take_of_length_le (by omega)]
theorem spanCells_len : ∀ l : List (Int × Int), (spanCells l).length = l.length * 2
 | [] => rfl
 | (a, b) :: r => by simp only [spanCells, List.length_cons, spanCells_len r]; omega
theorem spans_new' (W : World) (n base : Nat) (hn : W.heap.size = n) (hb : base ≤ n) (c : Array Value) (l : List (Int × Int)) (hc : c.toList = spanCells l) (hm : l.length ≤ maxLen) (k : Nat) (hk : k = l.length) :
   SpansAt (W.alloc (.cells c 271)) base (.slice (some ⟨n, 0, none⟩) k k) l := by
 subst hn; subst hk
 obtain ⟨h1, h2⟩ := spans_new W c l hc (fun _ => spanCells_len l) hm
 refine ⟨h1, ?_⟩
 rcases h2 with h2 | ⟨g, cap, cur, hv, hb', hh, h3⟩
 · exact .inl h2
 · refine .inr ⟨g, cap, cur, hv, ?_, hh, h3⟩
   omega
set_option maxHeartbeats 400000 in
theorem digits_any (w : World) :
   Calls Tryz.prog 164 #[] w fun x w' => x = .returned (.slice (some ⟨w.heap.size, 0, none⟩) 1 1) ∧ SpansAt w' w.heap.size (.slice (some ⟨w.heap.size, 0, none⟩) 1 1) [(48, 57)] ∧ Only (fun _ => False) w w' := by
 go_enter Tryz.func164, Tryz.ntmps164
 go_wp2
 go_ret
 exact ⟨rfl, spans_new w _ [(48, 57)] rfl (fun _ => spanCells_len _) (by decide), (Only.refl _ _).alloc _⟩
set_option maxHeartbeats 400000 in
theorem words_any (w : World) :
   Calls Tryz.prog 165 #[] w fun x w' => x = .returned (.slice (some ⟨w.heap.size, 0, none⟩) 4 4) ∧ SpansAt w' w.heap.size (.slice (some ⟨w.heap.size, 0, none⟩) 4 4) [(48, 57), (65, 90), (95, 95), (97, 122)] ∧ Only (fun _ => False) w w' := by
 go_enter Tryz.func165, Tryz.ntmps165
 go_wp2
 go_ret
 exact ⟨rfl, spans_new w _ [(48, 57), (65, 90), (95, 95), (97, 122)] rfl (fun _ => spanCells_len _) (by decide), (Only.refl _ _).alloc _⟩
set_option maxHeartbeats 400000 in
theorem blanks_any (w : World) :
   Calls Tryz.prog 166 #[] w fun x w' => x = .returned (.slice (some ⟨w.heap.size, 0, none⟩) 10 10) ∧ SpansAt w' w.heap.size (.slice (some ⟨w.heap.size, 0, none⟩) 10 10) [(9, 13), (32, 32), (160, 160), (5760, 5760), (8192, 8202), (8232, 8233), (8239, 8239), (8287, 8287), (12288, 12288), (65279, 65279)] ∧ Only (fun _ => False) w w' := by
 go_enter Tryz.func166, Tryz.ntmps166
 go_wp2
 go_ret
 exact ⟨rfl, spans_new w _ [(9, 13), (32, 32), (160, 160), (5760, 5760), (8192, 8202), (8232, 8233), (8239, 8239), (8287, 8287), (12288, 12288), (65279, 65279)] rfl (fun _ => spanCells_len _) (by decide), (Only.refl _ _).alloc _⟩
theorem ownsRow_keep {P : Nat → Prop} {w w' : World} {base : Nat} {e : TypeId} {size : Nat} {v : Value} {n : Nat} {xs : List Value} (h : w.ownsRow base e size v n xs) (k : Only P w w') (hn : ∀ g, v.ownBlock = some g → ¬ P g) :
   w'.ownsRow base e size v n xs := by
 obtain ⟨h1, h2⟩ := h
 refine ⟨h1, ?_⟩
 rcases h2 with h2 | ⟨g, cap, cur, rfl, hb, hh, h3⟩
 · exact .inl h2
 · refine .inr ⟨g, cap, cur, rfl, hb, ?_, h3⟩
   have hg : g < w.heap.size := (Array.getElem?_eq_some_iff.1 hh).1
   rw [k.block g hg (hn g rfl)]; exact hh
theorem ownsRow_base {w : World} {base base' : Nat} {e : TypeId} {size : Nat} {v : Value} {n : Nat} {xs : List Value} (h : w.ownsRow base e size v n xs) (hb : base' ≤ base) : w.ownsRow base' e size v n xs := by
 obtain ⟨h1, h2⟩ := h
 refine ⟨h1, ?_⟩
 rcases h2 with h2 | ⟨g, cap, cur, rfl, hb', hh, h3⟩
 · exact .inl h2
 · exact .inr ⟨g, cap, cur, rfl, by omega, hh, h3⟩
theorem ownsRow_block {w : World} {base : Nat} {e : TypeId} {size : Nat} {v : Value} {n : Nat} {xs : List Value} (h : w.ownsRow base e size v n xs) (g : Nat) (hg : v.ownBlock = some g) : base ≤ g ∧ g < w.heap.size := h.lt g hg
theorem SpansAt.keep {P : Nat → Prop} {w w' : World} {base : Nat} {v : Value} {l : List (Int × Int)} (h : SpansAt w base v l) (k : Only P w w') (hn : ∀ g, base ≤ g → g < w.heap.size → ¬ P g) : SpansAt w' base v l :=
 ownsRow_keep h k fun g hg => hn g (ownsRow_block h g hg).1 (ownsRow_block h g hg).2
theorem SpansAt.base {w : World} {base base' : Nat} {v : Value} {l : List (Int × Int)} (h : SpansAt w base v l) (hb : base' ≤ base) : SpansAt w base' v l := ownsRow_base h hb
theorem digits_at (w : World) (n : Nat) (hn : w.heap.size = n) : Calls Tryz.prog 164 #[] w fun x w' => x = .returned (.slice (some ⟨n, 0, none⟩) 1 1) ∧ SpansAt w' n (.slice (some ⟨n, 0, none⟩) 1 1) [(48, 57)] ∧ Only (fun _ => False) w w' := by
 subst hn; exact digits_any w
theorem words_at (w : World) (n : Nat) (hn : w.heap.size = n) : Calls Tryz.prog 165 #[] w fun x w' => x = .returned (.slice (some ⟨n, 0, none⟩) 4 4) ∧ SpansAt w' n (.slice (some ⟨n, 0, none⟩) 4 4) [(48, 57), (65, 90), (95, 95), (97, 122)] ∧ Only (fun _ => False) w w' := by
 subst hn; exact words_any w
theorem blanks_at (w : World) (n : Nat) (hn : w.heap.size = n) : Calls Tryz.prog 166 #[] w fun x w' => x = .returned (.slice (some ⟨n, 0, none⟩) 10 10) ∧ SpansAt w' n (.slice (some ⟨n, 0, none⟩) 10 10) [(9, 13), (32, 32), (160, 160), (5760, 5760), (8192, 8202), (8232, 8233), (8239, 8239), (8287, 8287), (12288, 12288), (65279, 65279)] ∧ Only (fun _ => False) w w' := by
 subst hn; exact blanks_any w
structure Pt where
 neg : Bool
 spans : List (Int × Int)
namespace Ref
def digitL : List (Int × Int) := [(48, 57)]
def wordL : List (Int × Int) := [(48, 57), (65, 90), (95, 95), (97, 122)]
def blankL : List (Int × Int) := [(9, 13), (32, 32), (160, 160), (5760, 5760), (8192, 8202), (8232, 8233), (8239, 8239), (8287, 8287), (12288, 12288), (65279, 65279)]
def backB (b : Int) : Bool := (decide (49 ≤ b) && decide (b ≤ 57)) || (b == 107) || (b == 112) || (b == 80)
def setL (b : Int) : List (Int × Int) := if b = 100 ∨ b = 68 then digitL else if b = 119 ∨ b = 87 then wordL else if b = 115 ∨ b = 83 then blankL else []
def escapeF (s : ByteArray) (cls : Bool) (st : St) : Pt × Bool × St :=
 if backB (byteAt s (st.i + 1)) = true then (⟨false, []⟩, true, (st.go 1).fail 6 st.i)
 else if setL (byteAt s (st.i + 1)) ≠ [] then (⟨decide (byteAt s (st.i + 1) < 97), setL (byteAt s (st.i + 1))⟩, false, st.go 2)
 else (⟨false, [((numberF s cls (st.go 1)).1, (numberF s cls (st.go 1)).1)]⟩, true, (numberF s cls (st.go 1)).2)
end Ref
theorem Ref.backB_cases {b : Int} (h : Ref.backB b = true) : (49 ≤ b ∧ b ≤ 57) ∨ b = 107 ∨ b = 112 ∨ b = 80 := by
 simp [Ref.backB] at h; omega
theorem Ref.backB_not {b : Int} (h : ¬ Ref.backB b = true) : ¬ (49 ≤ b ∧ b ≤ 57) ∧ b ≠ 107 ∧ b ≠ 112 ∧ b ≠ 80 := by
 simp [Ref.backB] at h; omega
theorem Ref.setL_nil {b : Int} (h : Ref.setL b = []) : (b == 100) = false ∧ (b == 68) = false ∧ (b == 119) = false ∧ (b == 87) = false ∧ (b == 115) = false ∧ (b == 83) = false := by
 unfold Ref.setL at h
 (repeat' split at h) <;> simp_all [Ref.digitL, Ref.wordL, Ref.blankL]
theorem Ref.setL_cases {b : Int} (h : ¬ Ref.setL b = []) : ((b == 100) = true ∧ Ref.setL b = Ref.digitL) ∨ ((b == 100) = false ∧ (b == 68) = true ∧ Ref.setL b = Ref.digitL) ∨
   ((b == 100) = false ∧ (b == 68) = false ∧ (b == 119) = true ∧ Ref.setL b = Ref.wordL) ∨ ((b == 100) = false ∧ (b == 68) = false ∧ (b == 119) = false ∧ (b == 87) = true ∧ Ref.setL b = Ref.wordL) ∨
   ((b == 100) = false ∧ (b == 68) = false ∧ (b == 119) = false ∧ (b == 87) = false ∧ (b == 115) = true ∧ Ref.setL b = Ref.blankL) ∨
   ((b == 100) = false ∧ (b == 68) = false ∧ (b == 119) = false ∧ (b == 87) = false ∧ (b == 115) = false ∧ (b == 83) = true ∧ Ref.setL b = Ref.blankL) := by
 unfold Ref.setL at *
 by_cases h1 : b = 100
 · subst h1; simp
 by_cases h2 : b = 68
 · subst h2; simp
 by_cases h3 : b = 119
 · subst h3; simp
 by_cases h4 : b = 87
 · subst h4; simp
 by_cases h5 : b = 115
 · subst h5; simp
 by_cases h6 : b = 83
 · subst h6; simp
 simp [h1, h2, h3, h4, h5, h6] at h
theorem cell_kept {P : Nat → Prop} {w w' : World} (h : Only P w w') (p : Addr) (v : Value) (hp : w.cell? p = some v) (hn : ¬ P p.block) : w'.cell? p = some v :=
 (h.cell (World.block_lt_of_cell? w p hp) hn).trans hp
theorem frozen_kept {P : Nat → Prop} {w w' : World} (h : Only P w w') (p : Addr) (hl : p.block < w.heap.size) (hp : w.frozen? p = false) (hn : ¬ P p.block) : w'.frozen? p = false :=
 (h.frozen hl hn).trans hp
theorem Lex.keep {P : Nat → Prop} {w w' : World} {b : Nat} {s : ByteArray} {st : St} (h : Lex w b s st) (k : Only P w w') (hn : ¬ P b) : Lex w' b s st := LexAt.keep h k hn
theorem Lex.alloc {w : World} {b : Nat} {s : ByteArray} {st : St} (h : Lex w b s st) (o : Obj) : Lex (w.alloc o) b s st := h.keep ((Only.refl (fun _ => False) w).alloc o) (fun f => f)
theorem Lex.lt {w : World} {b : Nat} {s : ByteArray} {st : St} (h : Lex w b s st) : b < w.heap.size := LexAt.lt h
theorem new_cell (W : World) (n : Nat) (hn : W.heap.size = n) (c : Array Value) (T : TypeId) (off : Nat) (v : Value) (h : c[off]? = some v) : (W.alloc (.cells c T)).cell? ⟨n, off, none⟩ = some v := by
 subst hn; rw [World.cell?_alloc_at _ _ _ _ rfl]; exact h
theorem new_frozen (W : World) (n : Nat) (hn : W.heap.size = n) (c : Array Value) (T : TypeId) (off : Nat) : (W.alloc (.cells c T)).frozen? ⟨n, off, none⟩ = false := by
 subst hn; exact World.frozen?_alloc_at _ _ _ _ rfl
theorem Only.fresh {P : Nat → Prop} {a w : World} (h : Only P a w) (p : Addr) (hp : a.heap.size ≤ p.block) (u : Value) : Only P a (w.setCell p u) := h.setCell (Or.inr hp) u
theorem spans_nil (w : World) (base : Nat) : SpansAt w base (.slice none 0 0) [] := World.ownsRow_nil w base _ _
set_option maxHeartbeats 800000 in
theorem escape_any (b : Nat) (s : ByteArray) (cls : Bool) (st : St) (w : World) (h : Lex w b s st) (hs : s.size ≤ 400) (hi : st.i < s.size) :
   Calls Tryz.prog 124 #[.pointer (some ⟨b, 0, none⟩), .bool cls] w fun x w' =>
     ∃ sv, x = .returned (.tuple #[.agg #[.bool (Ref.escapeF s cls st).1.neg, sv], .bool (Ref.escapeF s cls st).2.1]) ∧ SpansAt w' w.heap.size sv (Ref.escapeF s cls st).1.spans ∧
       Lex w' b s (Ref.escapeF s cls st).2.2 ∧ Only (Mine b) w w' := by
 have hL1 := hide h
 have hlt := h.lt
 have hlo := byteAt_lo s (st.i + 1)
 have hhi := byteAt_hi s (st.i + 1)
 have hne : ∀ w a n c n' c', (binOp .neq 272 (.slice a n c) (.slice none n' c')).run Tryz.prog w = .ok (.bool (!a.isNone)) w := fun w a n c n' c' => run_neq_slice_nil_any (P := Tryz.prog) w 272 271 a n c n' c' Tryz.underlying272
 obtain ⟨c0, c1, c2, c3, f1, f2, f3⟩ := h
 go_enter Tryz.func124, Tryz.ntmps124
 go_wp2_with fail
 have hL2 := hide (((unhide hL1).setI ((st.i : Int) + 1) 1 (by omega)).alloc (.cells #[.bool false, .slice none 0 0] 274))
 refine (now_lex b s (st.go 1) _ (unhide hL2) hs).mono ?_
 rintro e w1 ⟨rfl, nq, rfl⟩
 simp only [St.go]
 generalize hB : byteAt s (st.i + 1) = B at *
 by_cases hbk : Ref.backB B = true
 · have HF : Hid (Ref.escapeF s cls st = (⟨false, []⟩, true, (st.go 1).fail 6 st.i)) := by show _ = _; unfold Ref.escapeF; rw [hB, if_pos hbk]
   have hcs := Ref.backB_cases hbk
   clear hB hbk
   have hcs' : (49 ≤ B ∧ B ≤ 57) ∨ (¬ 49 ≤ B ∨ 57 < B) ∧ ((B == 107) = true ∨ (B == 107) = false ∧ ((B == 112) = true ∨ (B == 112) = false ∧ (B == 80) = true)) := by simp; omega
   clear hcs
   rcases hcs' with ⟨q1, q2⟩ | ⟨q1 | q1, q2 | ⟨q2, q3 | ⟨q3, q4⟩⟩⟩
   all_goals
     go_wp2_with fail
     refine (fail_lex b s (st.go 1) 6 _ _ ((unhide hL2).drewN _)).mono ?_
     rintro e w2 ⟨rfl, hL3, hO3⟩
     have r0 : w2.cell? ⟨w.heap.size, 0, none⟩ = some (.bool false) := cell_kept (hO3) _ _ (new_cell _ _ (by simp) _ _ 0 _ rfl) (by unfold Mine; simp; omega)
     have r1 : w2.cell? ⟨w.heap.size, 1, none⟩ = some (.slice none 0 0) := cell_kept hO3 _ _ (new_cell _ _ (by simp) _ _ 1 _ rfl) (by unfold Mine; simp; omega)
     have r2 : w2.frozen? ⟨w.heap.size, 0, none⟩ = false := frozen_kept hO3 _ (by simp) (new_frozen _ _ (by simp) _ _ 0) (by unfold Mine; simp; omega)
     have r3 : w2.frozen? ⟨w.heap.size, 1, none⟩ = false := frozen_kept hO3 _ (by simp) (new_frozen _ _ (by simp) _ _ 1) (by unfold Mine; simp; omega)
     go_wp2_with fail
     refine bodyPost_ret (v := .tuple #[.agg #[.bool false, .slice none 0 0], .bool true]) (by simp [results, Tryz.results124, go_sem, r0, r1]) rfl ?_
     rw [unhide HF]
     exact ⟨_, rfl, spans_nil _ _, hL3.keep (((Only.refl (Mine w.heap.size) _).mine _ _).mine _ _) (by unfold Mine; omega),
       (((((((Only.refl _ _).mine _ _).alloc _).drewN _).trans hO3).fresh ⟨w.heap.size, 0, none⟩ (Nat.le_refl _) _).fresh ⟨w.heap.size, 1, none⟩ (Nat.le_refl _) _)⟩
 · have hcs := Ref.backB_not hbk
   have hcs' : (¬ 49 ≤ B ∨ 57 < B) ∧ (B == 107) = false ∧ (B == 112) = false ∧ (B == 80) = false := by simp; omega
   obtain ⟨q1, q2, q3, q4⟩ := hcs'
   by_cases hset : Ref.setL B = []
   · have HF : Hid (Ref.escapeF s cls st = (⟨false, [((Ref.numberF s cls (st.go 1)).1, (Ref.numberF s cls (st.go 1)).1)]⟩, true, (Ref.numberF s cls (st.go 1)).2)) := by
       show _ = _; unfold Ref.escapeF; rw [hB, if_neg hbk, if_neg (by simp [hset])]
     have hs6 := Ref.setL_nil hset
     obtain ⟨x1, x2, x3, x4, x5, x6⟩ := hs6
     clear hB hbk hset hcs
     rcases q1 with q1 | q1
     all_goals
       go_wp2_with fail
       refine (number_any b s cls (st.go 1) _ ((unhide hL2).drewN _) hs (by simp only [St.go]; omega) (by simp only [St.go]; omega)).mono ?_
       rintro e w2 ⟨rfl, hL3, hO3⟩
       have r0 : w2.cell? ⟨w.heap.size, 0, none⟩ = some (.bool false) := cell_kept (hO3) _ _ (new_cell _ _ (by simp) _ _ 0 _ rfl) (by unfold Mine; simp; omega)
       have r1 : w2.cell? ⟨w.heap.size, 1, none⟩ = some (.slice none 0 0) := cell_kept hO3 _ _ (new_cell _ _ (by simp) _ _ 1 _ rfl) (by unfold Mine; simp; omega)
       have r2 : w2.frozen? ⟨w.heap.size, 0, none⟩ = false := frozen_kept hO3 _ (by simp) (new_frozen _ _ (by simp) _ _ 0) (by unfold Mine; simp; omega)
       have r3 : w2.frozen? ⟨w.heap.size, 1, none⟩ = false := frozen_kept hO3 _ (by simp) (new_frozen _ _ (by simp) _ _ 1) (by unfold Mine; simp; omega)
       have hsz : w.heap.size < w2.heap.size := World.block_lt_of_cell? w2 ⟨w.heap.size, 0, none⟩ r0
       go_wp2_with fail
       refine bodyPost_ret (v := .tuple #[.agg #[.bool false, .slice (some ⟨w2.heap.size, 0, none⟩) 1 1], .bool true]) (by simp [results, Tryz.results124, go_sem, r0, r1, hsz]) rfl ?_
       rw [unhide HF]
       generalize (Ref.numberF s cls (st.go 1)).1 = N at *
       refine ⟨_, rfl, ?_, ?_, ?_⟩
       · exact spans_new' _ _ _ (by simp) (by omega) _ [(N, N)] rfl (by simp [maxLen]) 1 rfl
       · exact (hL3.keep (((Only.refl (Mine w.heap.size) _).mine _ _).mine _ _) (by unfold Mine; omega)).alloc _
       · exact (((((((Only.refl _ _).mine _ _).alloc _).drewN _).trans hO3).fresh ⟨w.heap.size, 0, none⟩ (Nat.le_refl _) _).fresh ⟨w.heap.size, 1, none⟩ (Nat.le_refl _) _).alloc _
   · have HF : Hid (Ref.escapeF s cls st = (⟨decide (B < 97), Ref.setL B⟩, false, st.go 2)) := by
       show _ = _; unfold Ref.escapeF; rw [hB, if_neg hbk, if_pos hset]
     have hs6 := Ref.setL_cases hset
     clear hB hbk hset hcs
     rcases q1 with q1 | q1
     case' inl => have q1' : ¬ 49 ≤ B := q1
     all_goals
       rcases hs6 with ⟨x1, hq⟩ | ⟨x1, x2, hq⟩ | ⟨x1, x2, x3, hq⟩ | ⟨x1, x2, x3, x4, hq⟩ | ⟨x1, x2, x3, x4, x5, hq⟩ | ⟨x1, x2, x3, x4, x5, x6, hq⟩
     all_goals
       have Hq := hide hq
       clear hq
       go_wp2_with fail
       first
         | (refine (digits_at _ (w.heap.size + 1) (by simp)).mono ?_; rintro e w2 ⟨rfl, hsp, hO3⟩)
         | (refine (words_at _ (w.heap.size + 1) (by simp)).mono ?_; rintro e w2 ⟨rfl, hsp, hO3⟩)
         | (refine (blanks_at _ (w.heap.size + 1) (by simp)).mono ?_; rintro e w2 ⟨rfl, hsp, hO3⟩)
     all_goals
       have hL3 := ((unhide hL2).drewN nq).keep hO3 (fun f => f)
       have hL4 := hide hL3
       obtain ⟨d0, d1, d2, d3, g1, g2, g3⟩ := hL3
       have r0 : w2.cell? ⟨w.heap.size, 0, none⟩ = some (.bool false) := cell_kept (hO3) _ _ (new_cell _ _ (by simp) _ _ 0 _ rfl) (fun f => f)
       have r1 : w2.cell? ⟨w.heap.size, 1, none⟩ = some (.slice none 0 0) := cell_kept hO3 _ _ (new_cell _ _ (by simp) _ _ 1 _ rfl) (fun f => f)
       have r2 : w2.frozen? ⟨w.heap.size, 0, none⟩ = false := frozen_kept hO3 _ (by simp) (new_frozen _ _ (by simp) _ _ 0) (fun f => f)
       have r3 : w2.frozen? ⟨w.heap.size, 1, none⟩ = false := frozen_kept hO3 _ (by simp) (new_frozen _ _ (by simp) _ _ 1) (fun f => f)
       have hgi : (st.go 1).i ≤ 1000 := by simp only [St.go]; omega
       have Hsp := hide hsp
       have HO3 := hide hO3
       clear hsp hO3
       go_wp2_with fail
     all_goals
       refine bodyPost_ret (v := .tuple #[.agg #[.bool (decide (B < 97)), _], .bool false]) (by simp [results, Tryz.results124, go_sem, r0, r1]; rfl) rfl ?_
       rw [unhide HF]
       refine ⟨_, rfl, ?_, ?_, ?_⟩
       · rw [unhide Hq]
         exact ((unhide Hsp).keep ((((Only.refl (fun k => k = b ∨ k = w.heap.size) _).setCell (Or.inl (Or.inl rfl)) _).setCell (Or.inl (Or.inr rfl)) _).setCell (Or.inl (Or.inr rfl)) _) (by intro g hg _ hh; omega)).base (by omega)
       · exact ((unhide hL4).setI _ 1 (by simp only [St.go]; omega)).keep (((Only.refl (Mine w.heap.size) _).mine _ _).mine _ _) (by unfold Mine; omega)
       · exact ((((((((Only.refl _ _).mine _ _).alloc _).drewN _).trans ((unhide HO3).mono (fun _ _ f => f.elim))).mine _ _).fresh ⟨w.heap.size, 0, none⟩ (Nat.le_refl _) _).fresh ⟨w.heap.size, 1, none⟩ (Nat.le_refl _) _)
namespace Ref
def contF (s : ByteArray) (p : Nat) : Nat → Nat → Int → Option Int
 | 0, _, c => some c
 | k + 1, i, c => if byteAt s (p + i) < 128 ∨ 191 < byteAt s (p + i) then none else contF s p k (i + 1) (c * 64 + byteAt s (p + i) - 128)
def headK (b : Int) : Nat := (headN b).toNat
theorem headK_cast (b : Int) : headN b = (headK b : Int) := by unfold headK headN; (repeat' split) <;> rfl
theorem headK_le (b : Int) : headK b ≤ 4 := by unfold headK headN; (repeat' split) <;> decide
theorem headC_bd (b : Int) (h0 : 0 ≤ b) : 0 ≤ headC b ∧ headC b < 128 := by unfold headC; (repeat' split) <;> omega
def badC (n : Nat) (c : Int) : Bool := decide (c < leastV n) || decide (1114111 < c) || (decide (55296 ≤ c) && decide (c ≤ 57343))
def oneF (s : ByteArray) (p : Nat) : Option (Nat × Int) :=
 if headK (byteAt s p) = 0 ∨ s.size < p + headK (byteAt s p) then none
 else match contF s p (headK (byteAt s p) - 1) 1 (headC (byteAt s p)) with
   | none => none
   | some c => if badC (headK (byteAt s p)) c = true then none else some (headK (byteAt s p), c)
def charsF (s : ByteArray) : Nat → Nat → List (Int × Int) → List (Int × Int) × Int
 | 0, _, acc => (acc, -1)
 | f + 1, p, acc => if p < s.size then (match oneF s p with
     | none => (acc, (p : Int))
     | some (n, c) => charsF s f (p + n) (acc ++ [(c, (p : Int))])) else (acc, -1)
def charsR (s : ByteArray) : List (Int × Int) × Int := charsF s (s.size + 1) 0 []
theorem contF_bad {s : ByteArray} {p k i : Nat} {c : Int} (h : byteAt s (p + i) < 128 ∨ 191 < byteAt s (p + i)) : contF s p (k + 1) i c = none := by simp only [contF]; rw [if_pos h]
theorem contF_good {s : ByteArray} {p k i : Nat} {c : Int} (h : ¬ (byteAt s (p + i) < 128 ∨ 191 < byteAt s (p + i))) : contF s p (k + 1) i c = contF s p k (i + 1) (c * 64 + byteAt s (p + i) - 128) := by simp only [contF]; rw [if_neg h]
theorem charsF_end {s : ByteArray} {f p : Nat} {acc : List (Int × Int)} (h : ¬ p < s.size) : charsF s (f + 1) p acc = (acc, -1) := by simp only [charsF]; rw [if_neg h]
theorem charsF_bad {s : ByteArray} {f p : Nat} {acc : List (Int × Int)} (h : p < s.size) (h1 : oneF s p = none) : charsF s (f + 1) p acc = (acc, (p : Int)) := by simp only [charsF]; rw [if_pos h, h1]
theorem charsF_good {s : ByteArray} {f p n : Nat} {c : Int} {acc : List (Int × Int)} (h : p < s.size) (h1 : oneF s p = some (n, c)) : charsF s (f + 1) p acc = charsF s f (p + n) (acc ++ [(c, (p : Int))]) := by simp only [charsF]; rw [if_pos h, h1]
theorem oneF_none1 {s : ByteArray} {p : Nat} (h : headK (byteAt s p) = 0 ∨ s.size < p + headK (byteAt s p)) : oneF s p = none := by unfold oneF; rw [if_pos h]
theorem oneF_none2 {s : ByteArray} {p : Nat} (h : ¬ (headK (byteAt s p) = 0 ∨ s.size < p + headK (byteAt s p))) (h1 : contF s p (headK (byteAt s p) - 1) 1 (headC (byteAt s p)) = none) : oneF s p = none := by unfold oneF; rw [if_neg h, h1]
theorem oneF_none3 {s : ByteArray} {p : Nat} {c : Int} (h : ¬ (headK (byteAt s p) = 0 ∨ s.size < p + headK (byteAt s p))) (h1 : contF s p (headK (byteAt s p) - 1) 1 (headC (byteAt s p)) = some c) (h2 : badC (headK (byteAt s p)) c = true) : oneF s p = none := by
 unfold oneF; rw [if_neg h, h1]; simp [h2]
theorem oneF_some {s : ByteArray} {p : Nat} {c : Int} (h : ¬ (headK (byteAt s p) = 0 ∨ s.size < p + headK (byteAt s p))) (h1 : contF s p (headK (byteAt s p) - 1) 1 (headC (byteAt s p)) = some c) (h2 : badC (headK (byteAt s p)) c = false) : oneF s p = some (headK (byteAt s p), c) := by
 unfold oneF; rw [if_neg h, h1]; simp [h2]
end Ref
theorem Tryz.infoChar : (Tryz.prog.info? 172).map (fun i => (i.zero, i.size, i.bytes)) = some (some (.agg #[.int .i64 0, .int .i64 0]), 2, 16) := by kernel_rfl
def CharsAt (w : World) (base : Nat) (v : Value) (l : List (Int × Int)) : Prop := w.ownsRow base 172 2 v l.length (spanCells l)
theorem spanCells_append (l m : List (Int × Int)) : spanCells (l ++ m) = spanCells l ++ spanCells m := by
 induction l with
 | nil => rfl
 | cons x r ih => obtain ⟨a, b⟩ := x; simp only [List.cons_append, spanCells, ih]
def capC : Nat → Int
 | 0 => 128
 | 1 => 8192
 | 2 => 524288
 | 3 => 33554432
 | _ => 2147483648
theorem capC_le (k : Nat) : capC k ≤ 2147483648 := by unfold capC; split <;> omega
theorem capC_step (k : Nat) (h : k ≤ 3) (d b : Int) (h0 : d < capC k) (h1 : b ≤ 191) : d * 64 + b - 128 < capC (k + 1) := by
 have h5 : k = 0 ∨ k = 1 ∨ k = 2 ∨ k = 3 := by omega
 rcases h5 with rfl | rfl | rfl | rfl <;> simp only [capC] at * <;> omega
set_option maxHeartbeats 1000000 in
set_option maxRecDepth 100000 in
theorem chars_any (s : ByteArray) (w : World) (hs : s.size ≤ 400) :
   Calls Tryz.prog 35 #[.string s] w fun x w' =>
     ∃ v, x = .returned (.tuple #[v, .int .i64 (Ref.charsR s).2]) ∧ CharsAt w' w.heap.size v (Ref.charsR s).1 ∧ Only (fun _ => False) w w' := by
 obtain ⟨i0, hi, hz0, hz1, hz2⟩ := info_parts Tryz.infoChar
 go_enter Tryz.func35, Tryz.ntmps35
 go_wp2_with fail
 go_loopw [4, 5] (fun v p wr => ∃ (q f : Nat) (acc : List (Int × Int)), p = .int .i64 q ∧ q ≤ s.size ∧ acc.length ≤ q ∧ CharsAt wr w.heap.size v acc ∧ Only (fun _ => False) w wr ∧ Hid (s.size < q + f) ∧ Hid (Ref.charsR s = Ref.charsF s f q acc))
   (fun _ p _ => s.size - (intOf p).toNat)
 case atStart => exact ⟨0, s.size + 1, [], rfl, by omega, by simp, World.ownsRow_nil _ _ _ _, Only.refl _ _, (by show _ < _; omega), rfl⟩
 case round =>
   obtain ⟨q, f, acc, rfl, hq, hacc, hown, hO, hf, HF⟩ := hrel
   obtain ⟨f, rfl⟩ : ∃ f', f = f' + 1 := ⟨f - 1, by have := unhide hf; omega⟩
   by_cases hlt : q < s.size
   · go_wp2_with fail
     rw [byte_wrap, ← byteAt_in s q hlt]
     have hB0 := (byteAt_nonneg s q).2 hlt
     have hB1 := byteAt_hi s q
     refine (head_any _ _ hB0 hB1).mono ?_
     rintro e w1 ⟨rfl, hw1⟩
     have hw2 := hw1.symm
     subst hw2
     clear hw1
     rw [Ref.headK_cast]
     have hc := Ref.headC_bd (byteAt s q) hB0
     have hK := Ref.headK_le (byteAt s q)
     generalize hN : Ref.headK (byteAt s q) = N at *
     generalize hC : Ref.headC (byteAt s q) = C at *
     have HN := hide hN
     have HC := hide hC
     clear hN hC hB0 hB1
     by_cases h1 : N = 0 ∨ s.size < q + N
     · have HG : Hid (Ref.charsR s = (acc, (q : Int))) := by
         rw [unhide HF]; exact Ref.charsF_bad hlt (Ref.oneF_none1 (by rw [unhide HN]; exact h1))
       by_cases h0 : N = 0
       · subst h0
         clear h1
         go_wp2_with fail
         go_ret2
         rw [unhide HG]
         exact ⟨_, rfl, hown, hO⟩
       · have h2 : s.size < q + N := by omega
         have h3 : ((N : Int) == 0) = false := by simp; omega
         clear h1
         go_wp2_with fail
         go_ret2
         rw [unhide HG]
         exact ⟨_, rfl, hown, hO⟩
     · have h0 : ((N : Int) == 0) = false := by simp; omega
       have h2 : q + N ≤ s.size := by omega
       have h3 : 1 ≤ N := by omega
       have H1 : Hid (¬ (Ref.headK (byteAt s q) = 0 ∨ s.size < q + Ref.headK (byteAt s q))) := by rw [unhide HN]; exact h1
       clear h1
       have hdd : decide ((s.size : Int) < (q : Int) + N) = false := by simp; omega
       have Hown := hide hown
       have HO := hide hO
       have HI := hide (And.intro hi (And.intro hz0 (And.intro hz1 hz2)))
       clear hown hO hi hz0 hz1 hz2
       go_wp2_with fail
       go_loop [7, 8] (fun c i => ∃ (k : Nat) (d : Int), i = .int .i64 k ∧ c = .int .i64 d ∧ 1 ≤ k ∧ k ≤ N ∧ 0 ≤ d ∧ d ≤ 2147483648 ∧ Hid (d < capC k) ∧ Hid (Ref.contF s q (N - 1) 1 C = Ref.contF s q (N - k) k d))
         (fun _ i => N - (intOf i).toNat)
       case atStart => exact ⟨1, C, rfl, rfl, by omega, by omega, by omega, by omega, (by show C < 8192; omega), rfl⟩
       case round =>
         obtain ⟨k, d, rfl, rfl, hk1, hk2, hd0, hd1, hd2, HD⟩ := hrel
         have hb0 := byteAt_lo s (q + k)
         have hb1 := byteAt_hi s (q + k)
         by_cases hkn : k < N
         · have hw : wrap64 ((s[q + k]'(by omega)).toNat : Int) = byteAt s (q + k) := by rw [byte_wrap, byteAt_in]
           by_cases hbad : byteAt s (q + k) < 128 ∨ 191 < byteAt s (q + k)
           · have HG : Hid (Ref.charsR s = (acc, (q : Int))) := by
               rw [unhide HF]; exact Ref.charsF_bad hlt (Ref.oneF_none2 (unhide H1) (by rw [unhide HN, unhide HC, unhide HD, show N - k = (N - k - 1) + 1 by omega]; exact Ref.contF_bad hbad))
             by_cases hb2 : byteAt s (q + k) < 128
             · clear hbad
               go_wp2_with fail
               go_ret2
               rw [unhide HG]
               exact ⟨_, rfl, unhide Hown, unhide HO⟩
             · have hb3 : 191 < byteAt s (q + k) := by omega
               clear hbad
               go_wp2_with fail
               go_ret2
               rw [unhide HG]
               exact ⟨_, rfl, unhide Hown, unhide HO⟩
           · have HD1 : Hid (Ref.contF s q (N - 1) 1 C = Ref.contF s q (N - (k + 1)) (k + 1) (d * 64 + byteAt s (q + k) - 128)) := by
               rw [unhide HD, show N - k = (N - (k + 1)) + 1 by omega]; exact Ref.contF_good hbad
             have hb2 : 128 ≤ byteAt s (q + k) := by omega
             have hb3 : byteAt s (q + k) ≤ 191 := by omega
             have Hpn := hide (capC_step k (by omega) d _ (unhide hd2) hb3)
             have hcl := capC_le (k + 1)
             have hpl : d * 64 + byteAt s (q + k) - 128 ≤ 2147483648 := by have := unhide Hpn; omega
             clear hbad hcl
             go_wp2_with fail
             go_round
             case rel => exact ⟨k + 1, _, by go_num, rfl, by omega, by omega, by omega, by omega, Hpn, HD1⟩
             case measure => simp [intOf]; omega
         · have Hd : Hid (Ref.contF s q (N - 1) 1 C = some d) := by rw [unhide HD, show N - k = 0 by omega]; rfl
           clear hb0 hb1 HD hd2
           go_wp2_with fail
           refine (least_any _ _).mono ?_
           rintro e w1 ⟨rfl, hw1⟩
           have hw2 := hw1.symm
           subst hw2
           clear hw1
           by_cases hbc : Ref.badC N d = true
           · have HG : Hid (Ref.charsR s = (acc, (q : Int))) := by
               rw [unhide HF]; exact Ref.charsF_bad hlt (Ref.oneF_none3 (unhide H1) (by rw [unhide HN, unhide HC]; exact unhide Hd) (by rw [unhide HN]; exact hbc))
             simp only [Ref.badC, Bool.or_eq_true, Bool.and_eq_true, decide_eq_true_eq] at hbc
             have hcs : d < Ref.leastV N ∨ ¬ d < Ref.leastV N ∧ (1114111 < d ∨ ¬ 1114111 < d ∧ 55296 ≤ d ∧ d ≤ 57343) := by omega
             clear hbc
             rcases hcs with y1 | ⟨y1, y2 | ⟨y2, y3, y4⟩⟩
             all_goals
               go_wp2_with fail
               go_ret2
               rw [unhide HG]
               exact ⟨_, rfl, unhide Hown, unhide HO⟩
           · have hbc' : Ref.badC N d = false := by simpa using hbc
             have HG : Hid (Ref.charsR s = Ref.charsF s f (q + N) (acc ++ [(d, (q : Int))])) := by
               rw [unhide HF]
               have := Ref.charsF_good (f := f) (acc := acc) hlt (Ref.oneF_some (unhide H1) (by rw [unhide HN, unhide HC]; exact unhide Hd) (by rw [unhide HN]; exact hbc'))
               rw [unhide HN] at this; exact this
             simp only [Ref.badC, Bool.or_eq_false_iff, Bool.and_eq_false_iff, decide_eq_false_iff_not] at hbc'
             obtain ⟨⟨y1, y2⟩, y3⟩ := hbc'
             clear hbc
             obtain ⟨hi, hz0, hz1, hz2⟩ := unhide HI
             have hown : wr.ownsRow w.heap.size 172 2 _ acc.length (spanCells acc) := unhide Hown
             have y4 : ¬ 55296 ≤ d ∨ 55296 ≤ d ∧ 57343 < d := by omega
             clear y3
             rcases y4 with y4 | ⟨y4, y5⟩
             all_goals
               go_wp2_with (at_builtin; refine wpList_append_own _ rfl _ _ 99 rfl w.heap.size 172 i0 (.agg #[.int .i64 0, .int .i64 0]) 2 16 Tryz.underlying99 hi hz0 hz1 hz2 rfl (by decide) _ _ _ rfl (World.ownsRow.alloc hown _) ⟨wr.heap.size, 0, none⟩ 1 1 [.int .i64 d, .int .i64 (q : Int)] rfl rfl (cell_two_new _ _ _ _) (fun x hx => by simp at hx; rcases hx with rfl | rfl <;> rfl) (by unfold maxLen; omega) (by omega) (by have := (unhide HO).size; simp; omega) ?_; intro v' w3 hown' hgrow3 hnil3)
               go_roundw
               case rel =>
                 exact ⟨q + N, f, acc ++ [(d, (q : Int))], by go_num, h2, by simp; omega, (by
                   show World.ownsRow _ _ _ _ _ _ _
                   rw [spanCells_append, List.length_append]; exact hown'), ((unhide HO).alloc _).grown hgrow3 (fun j hj => Or.inr (hown.lt j hj).1), (by have := unhide hf; show _ < _; omega), HG⟩
               case measure => simp [intOf]; omega
   · have HG : Hid (Ref.charsR s = (acc, -1)) := by
       rw [unhide HF]; exact Ref.charsF_end hlt
     go_wp2_with fail
     go_ret2
     rw [unhide HG]
     exact ⟨_, rfl, hown, hO⟩
namespace Ref
def goodF (s : ByteArray) : Nat → Nat → Bool
 | 0, p => p == s.size
 | f + 1, p => if p < s.size then (match oneF s p with
     | none => false
     | some (n, _) => goodF s f (p + n)) else p == s.size
def Good (s : ByteArray) (p : Nat) : Prop := ∃ f, goodF s f p = true
theorem oneF_bd {s : ByteArray} {p n : Nat} {c : Int} (h : oneF s p = some (n, c)) : 1 ≤ n ∧ p + n ≤ s.size ∧ n ≤ 4 ∧ n = headK (byteAt s p) ∧ 0 ≤ c ∧ c ≤ 1114111 ∧ ¬ (55296 ≤ c ∧ c ≤ 57343) := by
 unfold oneF at h
 split at h
 · cases h
 · rename_i h1
   split at h
   · cases h
   · rename_i c' hc
     split at h
     · cases h
     · rename_i hb
       simp only [Option.some.injEq, Prod.mk.injEq] at h
       obtain ⟨rfl, rfl⟩ := h
       have := headK_le (byteAt s p)
       simp only [badC, Bool.or_eq_true, Bool.and_eq_true, decide_eq_true_eq] at hb
       have hl : 0 ≤ leastV (headK (byteAt s p)) := by unfold leastV; (repeat' split) <;> omega
       omega
theorem Good.le {s : ByteArray} {p : Nat} (h : Good s p) : p ≤ s.size := by
 obtain ⟨f, h⟩ := h
 cases f with
 | zero => simp [goodF] at h; omega
 | succ f =>
   simp only [goodF] at h
   split at h
   · omega
   · simp at h; omega
theorem Good.next {s : ByteArray} {p : Nat} (h : Good s p) (hp : p < s.size) : ∃ n c, oneF s p = some (n, c) ∧ Good s (p + n) := by
 obtain ⟨f, h⟩ := h
 cases f with
 | zero => simp [goodF] at h; omega
 | succ f =>
   simp only [goodF] at h
   rw [if_pos hp] at h
   split at h
   · cases h
   · rename_i n c hc
     exact ⟨n, c, hc, f, h⟩
theorem charsF_good_iff (s : ByteArray) : ∀ (f p : Nat) (acc : List (Int × Int)), s.size < p + f → ((charsF s f p acc).2 = -1 → p ≤ s.size → Good s p)
 | 0, p, acc, h, _, hp => by omega
 | f + 1, p, acc, h, h1, hp => by
   by_cases hlt : p < s.size
   · cases ho : oneF s p with
     | none => rw [charsF_bad hlt ho] at h1; simp at h1
     | some r =>
       obtain ⟨n, c⟩ := r
       have hb := oneF_bd ho
       rw [charsF_good hlt ho] at h1
       obtain ⟨g, hg⟩ := charsF_good_iff s f (p + n) _ (by omega) h1 (by omega)
       exact ⟨g + 1, by simp only [goodF]; rw [if_pos hlt, ho]; exact hg⟩
   · exact ⟨0, by simp [goodF]; omega⟩
theorem charsF_pre (s : ByteArray) : ∀ (f p : Nat) (acc : List (Int × Int)), ∃ t, (charsF s f p acc).1 = acc ++ t
 | 0, p, acc => ⟨[], by simp [charsF]⟩
 | f + 1, p, acc => by
   by_cases hlt : p < s.size
   · cases ho : oneF s p with
     | none => exact ⟨[], by rw [charsF_bad hlt ho]; simp⟩
     | some r =>
       obtain ⟨n, c⟩ := r
       rw [charsF_good hlt ho]
       obtain ⟨t, ht⟩ := charsF_pre s f (p + n) (acc ++ [(c, (p : Int))])
       exact ⟨[(c, (p : Int))] ++ t, by rw [ht, List.append_assoc]⟩
   · exact ⟨[], by rw [charsF_end hlt]; simp⟩
theorem ext_size (s : ByteArray) (i : Nat) (_hi : i ≤ s.size) : (s.extract i s.size).size = s.size - i := by simp
theorem byteAt_ext (s : ByteArray) (i k : Nat) (hi : i ≤ s.size) : byteAt (s.extract i s.size) k = byteAt s (i + k) := by
 by_cases hk : i + k < s.size
 · rw [byteAt_in s (i + k) hk, byteAt_in _ k (by rw [ext_size s i hi]; omega)]
   simp [ByteArray.getElem_extract]
 · rw [byteAt_out s (i + k) (by omega), byteAt_out _ k (by rw [ext_size s i hi]; omega)]
theorem contF_ext (s : ByteArray) (i p : Nat) (hi : i ≤ s.size) : ∀ (k j : Nat) (c : Int), contF (s.extract i s.size) p k j c = contF s (i + p) k j c
 | 0, _, _ => rfl
 | k + 1, j, c => by
   simp only [contF]
   rw [byteAt_ext s i (p + j) hi, ← Nat.add_assoc, contF_ext s i p hi k (j + 1)]
theorem oneF_ext (s : ByteArray) (i p : Nat) (hi : i ≤ s.size) : oneF (s.extract i s.size) p = oneF s (i + p) := by
 unfold oneF
 rw [byteAt_ext s i p hi, ext_size s i hi]
 have e : (headK (byteAt s (i + p)) = 0 ∨ s.size - i < p + headK (byteAt s (i + p))) ↔ (headK (byteAt s (i + p)) = 0 ∨ s.size < i + p + headK (byteAt s (i + p))) := by omega
 simp only [e, contF_ext s i p hi]
theorem chars_ext {s : ByteArray} {i n : Nat} {c : Int} (hi : i < s.size) (h : oneF s i = some (n, c)) (hg : Good s (i + n)) :
   (i + n = s.size ∧ (charsR (s.extract i s.size)).1 = [(c, 0)]) ∨ (i + n < s.size ∧ ∃ c' t, (charsR (s.extract i s.size)).1 = (c, 0) :: (c', (n : Int)) :: t) := by
 have hb := oneF_bd h
 have h0 : oneF (s.extract i s.size) 0 = some (n, c) := by rw [oneF_ext s i 0 (by omega)]; exact h
 have hsz := ext_size s i (by omega)
 unfold charsR
 rw [charsF_good (by omega) h0]
 by_cases he : i + n = s.size
 · left
   refine ⟨he, ?_⟩
   rw [show (s.extract i s.size).size = (s.size - i - 1) + 1 by omega, charsF_end (by omega)]
   rfl
 · right
   refine ⟨by omega, ?_⟩
   obtain ⟨n', c', ho, _⟩ := hg.next (by omega)
   have h1 : oneF (s.extract i s.size) (0 + n) = some (n', c') := by rw [oneF_ext s i _ (by omega)]; simpa using ho
   rw [show (s.extract i s.size).size = (s.size - i - 1) + 1 by omega, charsF_good (by omega) h1]
   obtain ⟨t, ht⟩ := charsF_pre (s.extract i s.size) (s.size - i - 1) (0 + n + n') ([] ++ [(c, ((0 : Nat) : Int))] ++ [(c', ((0 + n : Nat) : Int))])
   exact ⟨c', t, by rw [ht]; simp⟩
theorem oneF_ascii {s : ByteArray} {p : Nat} (h0 : 0 ≤ byteAt s p) (h1 : byteAt s p < 128) : oneF s p = some (1, byteAt s p) := by
 have hlt := (byteAt_nonneg s p).1 h0
 have hn : headK (byteAt s p) = 1 := by simp [headK, headN, h1]
 have hc : headC (byteAt s p) = byteAt s p := by simp [headC, h1]
 have hbc : badC 1 (byteAt s p) = false := by simp [badC, leastV]; omega
 unfold oneF
 rw [hn, if_neg (by omega), hc]
 simp [contF, hbc]
theorem Good.ascii {s : ByteArray} {p : Nat} (h : Good s p) (h0 : 0 ≤ byteAt s p) (h1 : byteAt s p < 128) : Good s (p + 1) := by
 have hlt := (byteAt_nonneg s p).1 h0
 obtain ⟨n, c, ho, hg⟩ := h.next hlt
 rw [oneF_ascii h0 h1] at ho
 simp at ho
 rw [← ho.1] at hg; exact hg
end Ref
theorem own_form {w : World} {base : Nat} {T : TypeId} {size : Nat} {v : Value} {n : Nat} {xs : List Value} (h : w.ownsRow base T size v n xs) (hn : 0 < n) : ∃ g cap, v = .slice (some ⟨g, 0, none⟩) n cap ∧ base ≤ g ∧ g < w.heap.size ∧ n ≤ cap := by
 obtain ⟨h1, h2⟩ := h
 rcases h2 with ⟨_, h2⟩ | ⟨g, cap, cur, rfl, hb, hh, h3, _⟩
 · omega
 · exact ⟨g, cap, rfl, hb, (Array.getElem?_eq_some_iff.1 hh).1, h3⟩
set_option maxHeartbeats 800000 in
set_option maxRecDepth 100000 in
theorem char_any (b : Nat) (s : ByteArray) (st : St) (n : Nat) (c : Int) (w : World) (h : Lex w b s st) (hs : s.size ≤ 400) (hi : st.i < s.size) (ho : Ref.oneF s st.i = some (n, c)) (hg : Ref.Good s (st.i + n)) :
   Calls Tryz.prog 126 #[.pointer (some ⟨b, 0, none⟩)] w fun x w' =>
     ∃ sv, x = .returned (.agg #[.bool false, sv]) ∧ SpansAt w' w.heap.size sv [(c, c)] ∧ Lex w' b s (st.go n) ∧ Only (Mine b) w w' := by
 have hL1 := hide h
 have hlt := h.lt
 have hbd := Ref.oneF_bd ho
 have hce := Ref.chars_ext hi ho hg
 have Hce := hide hce
 have Ho := hide ho
 have Hg := hide hg
 have hn4 : n ≤ 4 := hbd.2.2.1
 clear hce ho hg hbd
 obtain ⟨c0, c1, c2, c3, f1, f2, f3⟩ := h
 have hL2 := hide ((unhide hL1).alloc (.cells #[.bool false, .slice none 0 0] 274))
 go_enter Tryz.func126, Tryz.ntmps126
 go_wp2_with fail
 go_region_with (go_at_call 35; refine (chars_any _ _ (by simp; omega)).mono ?_; rintro e w1 ⟨v, rfl, hch, hO⟩)
 all_goals
   have hL3 : Lex w1 b s st := Lex.keep (P := fun _ => False) (by first | exact unhide hL2 | exact (unhide hL2).drewN _) hO (fun f => f)
   have hsz : (w.alloc (Obj.cells #[Value.bool false, Value.slice none 0 0] 274)).drew.heap.size = w.heap.size + 1 := by simp
   have r0 : w1.cell? ⟨w.heap.size, 0, none⟩ = some (.bool false) := cell_kept hO _ _ (by first | exact new_cell _ _ (by simp) _ _ 0 _ rfl) (fun f => f)
   have r1 : w1.cell? ⟨w.heap.size, 1, none⟩ = some (.slice none 0 0) := cell_kept hO _ _ (by first | exact new_cell _ _ (by simp) _ _ 1 _ rfl) (fun f => f)
   have r2 : w1.frozen? ⟨w.heap.size, 0, none⟩ = false := frozen_kept hO _ (by rw [hsz]; simp) (by first | exact new_frozen _ _ (by simp) _ _ 0) (fun f => f)
   have r3 : w1.frozen? ⟨w.heap.size, 1, none⟩ = false := frozen_kept hO _ (by rw [hsz]; simp) (by first | exact new_frozen _ _ (by simp) _ _ 1) (fun f => f)
   have hL4 := hide hL3
   have hlt1 : w.heap.size < w1.heap.size := World.block_lt_of_cell? w1 ⟨w.heap.size, 0, none⟩ r0
   obtain ⟨d0, d1, d2, d3, g1, g2, g3⟩ := hL3
   rw [hsz] at hch
   have HO := hide hO
   clear hsz hO
   rcases unhide Hce with ⟨he, hl⟩ | ⟨he, c', t, hl⟩
   · unfold CharsAt at hch
     rw [hl] at hch
     obtain ⟨g, cap, rfl, hb1, hb2, hcap⟩ := own_form hch (by simp)
     have k0 : w1.cell? ⟨g, 0, none⟩ = some (.int .i64 c) := hch.cells rfl 0 _ rfl
     clear hl hch
     have Hee := hide he
     clear he
     go_wp2_with fail
     have he := unhide Hee
     refine bodyPost_ret (v := .agg #[.bool false, .slice (some ⟨w1.heap.size, 0, none⟩) 1 1]) (by simp [results, Tryz.results126, go_sem, r0, r1, hlt1]) rfl ?_
     refine ⟨_, rfl, spans_new' _ _ _ (by simp) (by omega) _ [(c, c)] rfl (by simp [maxLen]) 1 rfl, ?_, ?_⟩
     · exact (((unhide hL4).setI _ n (by omega)).keep (((Only.refl (Mine w.heap.size) _).mine _ _).mine _ _) (by unfold Mine; omega)).alloc _
     · exact (((((((((Only.refl (Mine b) w).alloc _).drewN 1).trans ((unhide HO).mono (fun _ _ f => f.elim)))).mine _ _).fresh ⟨w.heap.size, 0, none⟩ (Nat.le_refl _) _).fresh ⟨w.heap.size, 1, none⟩ (Nat.le_refl _) _)).alloc _
   · unfold CharsAt at hch
     rw [hl] at hch
     obtain ⟨g, cap, rfl, hb1, hb2, hcap⟩ := own_form hch (by simp)
     have k0 : w1.cell? ⟨g, 0, none⟩ = some (.int .i64 c) := hch.cells rfl 0 _ rfl
     have k3 : w1.cell? ⟨g, 3, none⟩ = some (.int .i64 n) := hch.cells rfl 3 _ rfl
     clear hl hch
     go_wp2_with fail
     go_region
     all_goals (try go_wp2_with fail)
     all_goals
       refine bodyPost_ret (v := .agg #[.bool false, .slice (some ⟨w1.heap.size, 0, none⟩) 1 1]) (by simp [results, Tryz.results126, go_sem, r0, r1, hlt1]) rfl ?_
       refine ⟨_, rfl, spans_new' _ _ _ (by simp) (by omega) _ [(c, c)] rfl (by simp [maxLen]) 1 rfl, ?_, ?_⟩
       · exact ((((unhide hL4).drewN _).setI _ n (by omega)).keep (((Only.refl (Mine w.heap.size) _).mine _ _).mine _ _) (by unfold Mine; omega)).alloc _
       · exact ((((((((((Only.refl (Mine b) w).alloc _).drewN 1).trans ((unhide HO).mono (fun _ _ f => f.elim)))).drewN _).mine _ _).fresh ⟨w.heap.size, 0, none⟩ (Nat.le_refl _) _).fresh ⟨w.heap.size, 1, none⟩ (Nat.le_refl _) _)).alloc _
end Go.Proofs.YtnagphodmfejiaaGreatDoor
