/- Of any bytes: what the program's Compile tells beside the document's. The statement's own functions: what is looked at behind each step. The statement's own functions: one step. -/
import Derived.Test.YtdhmllobgijggaaGreatDoorKCmpA
import Derived.Test.YtdhmllobgijggaaGreatDoorKEqO
import Derived.Test.YtdhmllobgijggaaGreatDoorKEqIL
import Derived.Test.YtdhmllobgijggaaGreatDoorKRefWY
namespace Go.Proofs.YtdhmllobgijggaaGreatDoor
open Go.RowKit

/-- The document's answer where a pattern is wrong. -/
def RefBad (s : ByteArray) (k : Nat) (p : Int) : Prop := ∀ w : World, Calls Tryz.prog 17 #[.string s] w fun x w' => x = .returned (.tuple #[.pointer none, .int .i64 k, .int .i64 p]) ∧ Only (fun _ => False) w w'
/-- The document's answer where a pattern is right, and its size. -/
def RefGood (s : ByteArray) (z : Int) : Prop := ∀ w : World, Calls Tryz.prog 17 #[.string s] w fun x w' => ∃ g, x = .returned (.tuple #[.pointer (some ⟨g, 0, none⟩), .int .i64 0, .int .i64 0]) ∧ Only (fun _ => False) w w' ∧ w.heap.size ≤ g ∧ w'.cell? ⟨g, 1, none⟩ = some (.int .i64 (z + 1))

/-- Both tell the same. -/
theorem both_tell (s : ByteArray) :
    (∃ (k : Nat) (p : Int), 1 ≤ k ∧ k ≤ 8 ∧ RefBad s k p ∧ ∀ (w : World) (a : Nat → Addr), Start w a → PatBad s a k p w) ∨
    (∃ v : Int, 0 ≤ v ∧ v < 300 ∧ RefGood s v ∧ ∀ (w : World) (a : Nat → Addr), Start w a → PatGood s v w) := by
  by_cases hs : s.size ≤ 200
  · by_cases hc : 0 ≤ (Ref.charsR s).2
    · exact .inl ⟨1, (Ref.charsR s).2, by decide, by decide, fun w => rcompile_text s w hs hc, fun w a h => pattern_text s w a h.sents h.size hs hc⟩
    · have hc' : (Ref.charsR s).2 < 0 := by omega
      have hbr : Eqv.Br s (Pro.letM s (s.size + 1) 0) 0 0 := by rw [letM_eq]; exact Eqv.Br.start (Ref.good_of_chars hc')
      obtain ⟨w1, w2⟩ := Eqv.whole_same hbr
      generalize ho : Pro.altP (Pro.letM s (s.size + 1) 0) (s.size : Nat) (Pro.deepO (Pro.letM s (s.size + 1) 0) (s.size : Nat) 10) 0 = o at w1 w2
      have hk8 : o.k ≤ 8 := by rw [← ho]; exact Pro.altP_k 0
      by_cases hk : o.k = 0
      · obtain ⟨w3, w4⟩ := w2 hk
        by_cases hn : o.n = (Pro.letM s (s.size + 1) 0).length
        · obtain ⟨ts, ht, hB, hA⟩ := w3 hn
          obtain ⟨z, hz0, hz1, hz⟩ := hA.whole
          have e1 : (Ref.tokensR s).1 = ts := by rw [ht]
          have e2 : (Ref.tokensR s).2.1 = 0 := by rw [ht]
          have hzb : z ≤ 10000000 := by
            obtain ⟨fz, hfz⟩ := hz
            have h1 := (Ref.sizeS_bd fz ts 0 z 0 hfz hB.2 (by omega) (by omega) (by omega)).2
            have h2 := Ref.tokensR_len s
            rw [e1] at h2
            omega
          have hin := Pro.altP_in (L := Pro.letM s (s.size + 1) 0) (len := ((s.size : Nat) : Int)) (D := Pro.deepO (Pro.letM s (s.size + 1) 0) ((s.size : Nat) : Int) 10) (Pro.deepO_in 10) 0 (by omega)
          rw [ho] at hin
          have hin3 := hin.2.2 hk
          by_cases hv : o.v < 300
          · have hzv : z = o.v := by omega
            refine .inr ⟨o.v, by omega, hv, fun w => ?_, fun w a h => pattern_ok s w a h.sents h.size hs hc' _ rfl o ho hk hn hv⟩
            rw [← hzv]
            exact rcompile_ok s w z hs hc' e2 (by rw [e1]; exact hB.2) (by rw [e1]; exact hz) (by omega) hz0
          · refine .inl ⟨8, 0, by decide, by decide, fun w => ?_, fun w a h => pattern_big s w a h.sents h.size hs hc' _ rfl o ho hk hn (by omega)⟩
            exact rcompile_big s w z hs hc' e2 (by rw [e1]; exact hB.2) (by rw [e1]; exact hz) (by omega) hzb
        · obtain ⟨l', hl⟩ := w4 hn
          refine .inl ⟨3, Pro.placeAt (Pro.letM s (s.size + 1) 0) (s.size : Nat) o.n, by decide, by decide, fun w => ?_, fun w a h => pattern_over s w a h.sents h.size hs hc' _ rfl o ho hk hn⟩
          have := rcompile_bad s w hs hc' (by rw [hl]; show (3 : Int) ≠ 0; decide)
          rw [hl] at this
          exact this
      · obtain ⟨l', hl⟩ := w1 hk
        refine .inl ⟨o.k, o.p, by omega, hk8, fun w => ?_, fun w a h => pattern_bad s w a h.sents h.size hs hc' _ rfl o ho hk⟩
        have := rcompile_bad s w hs hc' (by rw [hl]; show ((o.k : Nat) : Int) ≠ 0; omega)
        rw [hl] at this
        exact this
  · exact .inl ⟨2, 200, by decide, by decide, fun w => (rcompile_long s w (by omega)).mono (by rintro e w' ⟨rfl, rfl⟩; exact ⟨rfl, Only.refl _ _⟩), fun w a h => pattern_long s w a h.sents (by omega)⟩
end Go.Proofs.YtdhmllobgijggaaGreatDoor
namespace Go.Proofs.YtdhmllobgijggaaGreatDoor
open Go.RowKit

/-- The statement's own store: its patterns, and nothing else in it. -/
structure LawW (w : World) (b : Nat) (pv : Value) : Prop where
  c0 : w.cell? ⟨b, 0, none⟩ = some pv
  c1 : w.cell? ⟨b, 1, none⟩ = some (.slice none 0 0)
  c2 : w.cell? ⟨b, 2, none⟩ = some (.slice none 0 0)
  c4 : w.cell? ⟨b, 4, none⟩ = some (.slice none 0 0)
  c6 : w.cell? ⟨b, 6, none⟩ = some (.slice none 0 0)
  c7 : w.cell? ⟨b, 7, none⟩ = some (.slice none 0 0)
  c8 : w.cell? ⟨b, 8, none⟩ = some (.slice none 0 0)
  c9 : w.cell? ⟨b, 9, none⟩ = some (.slice none 0 0)
  f0 : w.frozen? ⟨b, 0, none⟩ = false

theorem LawW.lt {w : World} {b : Nat} {pv : Value} (h : LawW w b pv) : b < w.heap.size := World.block_lt_of_cell? w ⟨b, 0, none⟩ h.c0
theorem LawW.keep {P : Nat → Prop} {w w' : World} {b : Nat} {pv : Value} (h : LawW w b pv) (k : Only P w w') (hn : ¬ P b) : LawW w' b pv :=
  ⟨cell_kept k _ _ h.c0 hn, cell_kept k _ _ h.c1 hn, cell_kept k _ _ h.c2 hn, cell_kept k _ _ h.c4 hn, cell_kept k _ _ h.c6 hn, cell_kept k _ _ h.c7 hn, cell_kept k _ _ h.c8 hn, cell_kept k _ _ h.c9 hn, frozen_kept k _ h.lt h.f0 hn⟩
theorem LawW.set {w : World} {b : Nat} {pv : Value} (h : LawW w b pv) (v : Value) : LawW (w.setCell ⟨b, 0, none⟩ v) b v :=
  have o : ∀ (j : Nat) u, j ≠ 0 → w.cell? ⟨b, j, none⟩ = some u → (w.setCell ⟨b, 0, none⟩ v).cell? ⟨b, j, none⟩ = some u := fun j u hj hu => (World.cell?_setCell_other _ _ _ _ (by intro e; exact hj (by have h2 := congrArg Addr.off e; simp only [] at h2; omega))).trans hu
  ⟨World.cell?_setCell_same _ _ _ h.c0, o 1 _ (by decide) h.c1, o 2 _ (by decide) h.c2, o 4 _ (by decide) h.c4, o 6 _ (by decide) h.c6, o 7 _ (by decide) h.c7, o 8 _ (by decide) h.c8, o 9 _ (by decide) h.c9, (frozen_setCell _ _ _ _).trans h.f0⟩

set_option maxHeartbeats 2000000 in
set_option maxRecDepth 1000000 in
theorem kept_any (b : Nat) (pv : Value) (w : World) (h : LawW w b pv) :
    Calls Tryz.prog 6 #[.pointer (some ⟨b, 0, none⟩)] w fun e w' => e = .returned (.bool true) ∧ w' = w := by
  obtain ⟨c0, c1, c2, c4, c6, c7, c8, c9, f0⟩ := h
  clear c0 f0
  go_enter Tryz.func6, Tryz.ntmps6
  go_wp2_with fail
  refine wp_loop_rounds 1 ?_
  rw [rounds_succ]
  go_wp2_with fail
  refine wp_loop_rounds 1 ?_
  rw [rounds_succ]
  go_wp2_with fail
  refine wp_loop_rounds 1 ?_
  rw [rounds_succ]
  go_wp2_with fail
  refine wp_loop_rounds 1 ?_
  rw [rounds_succ]
  go_wp2_with fail
  refine wp_loop_rounds 1 ?_
  rw [rounds_succ]
  go_wp2_with fail
  refine wp_loop_rounds 1 ?_
  rw [rounds_succ]
  go_wp2_with fail
  go_ret
  exact ⟨rfl, rfl⟩
end Go.Proofs.YtdhmllobgijggaaGreatDoor
namespace Go.Proofs.YtdhmllobgijggaaGreatDoor
open Go.RowKit

set_option maxHeartbeats 2000000 in
set_option maxRecDepth 1000000 in
theorem compiles_no (b : Nat) (s : ByteArray) (k : Nat) (p : Int) (w : World) (a : Nat → Addr) (hS : Start w a) (k1 : 1 ≤ k) (k2 : k ≤ 8) (hr : RefBad s k p) (hp : ∀ (w : World) (a : Nat → Addr), Start w a → PatBad s a k p w) :
    Calls Tryz.prog 9 #[.pointer (some ⟨b, 0, none⟩), .agg #[.int .i64 1, .int .i64 0, .int .i64 0, .int .i64 0, .string s, .slice none 0 0, .slice none 0 0, .slice none 0 0]] w fun e w' => e = .returned (.bool true) ∧ Only (fun _ => False) w w' := by
  have HC : Hid (∀ w1, Only (fun _ => False) w w1 → Calls Tryz.prog 16 #[.string s] w1 fun x w' => x = .returned (.tuple #[.pointer none, .int .i64 k, .int .i64 p]) ∧ Only (fun _ => False) w1 w') := fun w1 h1 => compile_no s w1 a k p (hS.keep h1) k1 k2 (hp w1 a (hS.keep h1))
  have HR := hide hr
  clear hS hp hr
  go_enter Tryz.func9, Tryz.ntmps9
  go_wp2_with (first | (go_at_call 16; refine (unhide HC _ ((Only.refl _ _).alloc _)).mono ?_; rintro e w1 ⟨rfl, hO1⟩; have q4 := cell_kept hO1 ⟨w.heap.size, 4, none⟩ _ (new_cell w _ rfl _ _ 4 _ rfl) (fun f => f)) | (go_at_call 17; refine (unhide HR w1).mono ?_; rintro e w2 ⟨rfl, hO2⟩))
  go_ret
  exact ⟨rfl, (((Only.refl _ _).alloc _).trans hO1).trans hO2⟩

/-- A right pattern in the statement's store: the program's and the document's, with their sizes. -/
structure OneIn (w : World) (base q : Nat) (v : Int) : Prop where
  at' : ∃ gx gy T y F, w.cell? ⟨q, 0, none⟩ = some (.pointer (some ⟨gx, 0, none⟩)) ∧ w.cell? ⟨q, 1, none⟩ = some (.pointer (some ⟨gy, 0, none⟩)) ∧ w.cell? ⟨gx, 0, none⟩ = some (.iface T y) ∧ SizeAt F w (fun h => base ≤ h) (.iface T y) v ∧ w.cell? ⟨gy, 1, none⟩ = some (.int .i64 (v + 1)) ∧ base ≤ gx ∧ base ≤ gy ∧ base ≤ q

theorem OneIn.keep {P : Nat → Prop} {w w' : World} {base q : Nat} {v : Int} (h : OneIn w base q v) (k : Only P w w') (hn : ∀ g, base ≤ g → ¬ P g) : OneIn w' base q v := by
  obtain ⟨gx, gy, T, y, F, h1, h2, h3, h4, h5, h6, h7, h8⟩ := h.at'
  exact ⟨gx, gy, T, y, F, cell_kept k _ _ h1 (hn _ h8), cell_kept k _ _ h2 (hn _ h8), cell_kept k _ _ h3 (hn _ h6), SizeAt.keep k hn F _ _ h4, cell_kept k _ _ h5 (hn _ h7), h6, h7, h8⟩

set_option maxHeartbeats 2000000 in
set_option maxRecDepth 1000000 in
theorem compiles_yes (b : Nat) (s : ByteArray) (v : Int) (w : World) (a : Nat → Addr) (hS : Start w a) (hr : RefGood s v) (hp : ∀ (w : World) (a : Nat → Addr), Start w a → PatGood s v w) (hW : LawW w b (.slice none 0 0)) :
    Calls Tryz.prog 9 #[.pointer (some ⟨b, 0, none⟩), .agg #[.int .i64 1, .int .i64 0, .int .i64 0, .int .i64 0, .string s, .slice none 0 0, .slice none 0 0, .slice none 0 0]] w fun e w' => ∃ q cap, e = .returned (.bool true) ∧ LawW w' b (.slice (some ⟨q, 0, none⟩) 1 cap) ∧ OneIn w' w.heap.size q v ∧ Only (Mine b) w w' := by
  have HC : Hid (∀ w1, Only (fun _ => False) w w1 → Calls Tryz.prog 16 #[.string s] w1 fun x w' => ∃ g T y F, x = .returned (.tuple #[.pointer (some ⟨g, 0, none⟩), .int .i64 0, .int .i64 0]) ∧ w1.heap.size ≤ g ∧ w'.cell? ⟨g, 0, none⟩ = some (.iface T y) ∧ SizeAt F w' (fun h => w1.heap.size ≤ h) (.iface T y) v ∧ Only (fun _ => False) w1 w') := fun w1 h1 => compile_yes s w1 v (hp w1 a (hS.keep h1))
  have HR := hide hr
  have HW := hide hW
  have hbl := hW.lt
  clear hp hr hW hS
  go_enter Tryz.func9, Tryz.ntmps9
  go_wp2_with (first | (go_at_call 16; refine (unhide HC _ ((Only.refl _ _).alloc _)).mono ?_; rintro e w1 ⟨gx, T, y, F, rfl, hx1, hx2, hx3, hO1⟩; have q4 := cell_kept hO1 ⟨w.heap.size, 4, none⟩ _ (new_cell w _ rfl _ _ 4 _ rfl) (fun f => f); have X2 := hide hx2; have X3 := hide hx3; clear hx2 hx3) | (go_at_call 17; refine (unhide HR w1).mono ?_; rintro e w2 ⟨gy, rfl, hO2, hy1, hy2⟩; have Y2 := hide hy2; clear hy2; have W2 := hide ((unhide HW).keep ((((Only.refl (fun _ => False) w).alloc _).trans hO1).trans hO2) (fun f => f)); have d0 := (unhide W2).c0; have d1 := (unhide W2).f0; have hb2 := (unhide W2).lt))
  go_ret
  have hs1 : w.heap.size + 1 ≤ w1.heap.size := by have := hO1.size; simpa using this
  have hs2 := hO2.size
  have hgx : w.heap.size + 1 ≤ gx := by simpa using hx1
  have k : Only (Mine b) w2 _ := ((((Only.refl (Mine b) w2).mine 0 (Value.slice (some ⟨w2.heap.size + 1, 0, none⟩) 1 ((Question.appendCap 1 0 45).cut (w2.tape w2.drawn (Question.appendCap 1 0 45))))).alloc (.cells #[.pointer (some ⟨gx, 0, none⟩), .pointer (some ⟨gy, 0, none⟩)] 45)).alloc (.cells (#[.pointer (some ⟨gx, 0, none⟩), .pointer (some ⟨gy, 0, none⟩)] ++ Builtin.zeroCells #[.pointer none, .pointer none] ((Question.appendCap 1 0 45).cut (w2.tape w2.drawn (Question.appendCap 1 0 45)) - 1)) 45)).drew
  refine ⟨w2.heap.size + 1, (Question.appendCap 1 0 45).cut (w2.tape w2.drawn (Question.appendCap 1 0 45)), rfl, ?_, ⟨gx, gy, T, y, F, ?_, ?_, ?_, ?_, ?_, by omega, by omega, by omega⟩, ?_⟩
  · exact ((unhide W2).set _).keep ((((Only.refl (fun _ => False) _).alloc _).alloc _).drew) (fun f => f)
  · exact (new_cell ((w2.setCell ⟨b, 0, none⟩ _).alloc (.cells #[.pointer (some ⟨gx, 0, none⟩), .pointer (some ⟨gy, 0, none⟩)] 45)) (w2.heap.size + 1) (by rw [World.size_alloc]; simp [World.setCell]) _ _ 0 _ (by rw [Array.getElem?_append_left (by simp)]; rfl))
  · exact (new_cell ((w2.setCell ⟨b, 0, none⟩ _).alloc (.cells #[.pointer (some ⟨gx, 0, none⟩), .pointer (some ⟨gy, 0, none⟩)] 45)) (w2.heap.size + 1) (by rw [World.size_alloc]; simp [World.setCell]) _ _ 1 _ (by rw [Array.getElem?_append_left (by simp)]; rfl))
  · exact cell_kept k _ _ (cell_kept hO2 _ _ (unhide X2) (fun f => f)) (fun e => by have : gx = b := e; omega)
  · exact SizeAt.keep k (fun g hg e => by have : g = b := e; omega) F _ _ (SizeAt.keep hO2 (fun _ _ f => f) F _ _ (SizeAt.mono (fun g _ hg => by simp at hg; omega) F _ _ (unhide X3)))
  · exact cell_kept k _ _ (unhide Y2) (fun e => by have : gy = b := e; omega)
  · exact (((((Only.refl (fun _ => False) w).alloc _).trans hO1).trans hO2).mono (fun _ _ f => f.elim)).trans k
end Go.Proofs.YtdhmllobgijggaaGreatDoor
