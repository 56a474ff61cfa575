/- Texts: where characters begin. Plain facts on bytes. The reference's plain characters, and members of a class. The reference's members, openings and counts. The reference's counts. The reference's quantifiers. The reference's quantifiers. The reference's lexer stays within the text, at a character's beginning. Plain facts. Parts and tokens in memory; the classes of the reference, as a function. -/
import Derived.Test.YtdhmllobgijggaaGreatDoorKRefAH
import Derived.Lib.Strings
import Derived.Lib.IndexBytes
namespace Go.Proofs.YtdhmllobgijggaaGreatDoor
open Go.RowKit

namespace Ref
/-- From a place on the bytes are characters, up to the end. -/
def goodF (s : ByteArray) : Nat → Nat → Bool
  | 0, p => p == s.size
  | f + 1, p => if p < s.size then (match oneF s p with
      | none => false
      | some (n, _) => goodF s f (p + n)) else p == s.size
def Good (s : ByteArray) (p : Nat) : Prop := ∃ f, goodF s f p = true

theorem oneF_bd {s : ByteArray} {p n : Nat} {c : Int} (h : oneF s p = some (n, c)) : 1 ≤ n ∧ p + n ≤ s.size ∧ n ≤ 4 ∧ n = headK (byteAt s p) ∧ 0 ≤ c ∧ c ≤ 1114111 ∧ ¬ (55296 ≤ c ∧ c ≤ 57343) := by
  unfold oneF at h
  split at h
  · cases h
  · rename_i h1
    split at h
    · cases h
    · rename_i c' hc
      split at h
      · cases h
      · rename_i hb
        simp only [Option.some.injEq, Prod.mk.injEq] at h
        obtain ⟨rfl, rfl⟩ := h
        have := headK_le (byteAt s p)
        simp only [badC, Bool.or_eq_true, Bool.and_eq_true, decide_eq_true_eq] at hb
        have hl : 0 ≤ leastV (headK (byteAt s p)) := by unfold leastV; (repeat' split) <;> omega
        omega

theorem Good.le {s : ByteArray} {p : Nat} (h : Good s p) : p ≤ s.size := by
  obtain ⟨f, h⟩ := h
  cases f with
  | zero => simp [goodF] at h; omega
  | succ f =>
    simp only [goodF] at h
    split at h
    · omega
    · simp at h; omega

theorem Good.next {s : ByteArray} {p : Nat} (h : Good s p) (hp : p < s.size) : ∃ n c, oneF s p = some (n, c) ∧ Good s (p + n) := by
  obtain ⟨f, h⟩ := h
  cases f with
  | zero => simp [goodF] at h; omega
  | succ f =>
    simp only [goodF] at h
    rw [if_pos hp] at h
    split at h
    · cases h
    · rename_i n c hc
      exact ⟨n, c, hc, f, h⟩

theorem charsF_good_iff (s : ByteArray) : ∀ (f p : Nat) (acc : List (Int × Int)), s.size < p + f → ((charsF s f p acc).2 = -1 → p ≤ s.size → Good s p)
  | 0, p, acc, h, _, hp => by omega
  | f + 1, p, acc, h, h1, hp => by
    by_cases hlt : p < s.size
    · cases ho : oneF s p with
      | none => rw [charsF_bad hlt ho] at h1; simp at h1
      | some r =>
        obtain ⟨n, c⟩ := r
        have hb := oneF_bd ho
        rw [charsF_good hlt ho] at h1
        obtain ⟨g, hg⟩ := charsF_good_iff s f (p + n) _ (by omega) h1 (by omega)
        exact ⟨g + 1, by simp only [goodF]; rw [if_pos hlt, ho]; exact hg⟩
    · exact ⟨0, by simp [goodF]; omega⟩

theorem charsF_pre (s : ByteArray) : ∀ (f p : Nat) (acc : List (Int × Int)), ∃ t, (charsF s f p acc).1 = acc ++ t
  | 0, p, acc => ⟨[], by simp [charsF]⟩
  | f + 1, p, acc => by
    by_cases hlt : p < s.size
    · cases ho : oneF s p with
      | none => exact ⟨[], by rw [charsF_bad hlt ho]; simp⟩
      | some r =>
        obtain ⟨n, c⟩ := r
        rw [charsF_good hlt ho]
        obtain ⟨t, ht⟩ := charsF_pre s f (p + n) (acc ++ [(c, (p : Int))])
        exact ⟨[(c, (p : Int))] ++ t, by rw [ht, List.append_assoc]⟩
    · exact ⟨[], by rw [charsF_end hlt]; simp⟩

theorem ext_size (s : ByteArray) (i : Nat) (_hi : i ≤ s.size) : (s.extract i s.size).size = s.size - i := by simp
theorem byteAt_ext (s : ByteArray) (i k : Nat) (hi : i ≤ s.size) : byteAt (s.extract i s.size) k = byteAt s (i + k) := by
  by_cases hk : i + k < s.size
  · rw [byteAt_in s (i + k) hk, byteAt_in _ k (by rw [ext_size s i hi]; omega)]
    simp [ByteArray.getElem_extract]
  · rw [byteAt_out s (i + k) (by omega), byteAt_out _ k (by rw [ext_size s i hi]; omega)]
theorem contF_ext (s : ByteArray) (i p : Nat) (hi : i ≤ s.size) : ∀ (k j : Nat) (c : Int), contF (s.extract i s.size) p k j c = contF s (i + p) k j c
  | 0, _, _ => rfl
  | k + 1, j, c => by
    simp only [contF]
    rw [byteAt_ext s i (p + j) hi, ← Nat.add_assoc, contF_ext s i p hi k (j + 1)]
theorem oneF_ext (s : ByteArray) (i p : Nat) (hi : i ≤ s.size) : oneF (s.extract i s.size) p = oneF s (i + p) := by
  unfold oneF
  rw [byteAt_ext s i p hi, ext_size s i hi]
  have e : (headK (byteAt s (i + p)) = 0 ∨ s.size - i < p + headK (byteAt s (i + p))) ↔ (headK (byteAt s (i + p)) = 0 ∨ s.size < i + p + headK (byteAt s (i + p))) := by omega
  simp only [e, contF_ext s i p hi]

/-- What Chars tells from the place of a character on. -/
theorem chars_ext {s : ByteArray} {i n : Nat} {c : Int} (hi : i < s.size) (h : oneF s i = some (n, c)) (hg : Good s (i + n)) :
    (i + n = s.size ∧ (charsR (s.extract i s.size)).1 = [(c, 0)]) ∨ (i + n < s.size ∧ ∃ c' t, (charsR (s.extract i s.size)).1 = (c, 0) :: (c', (n : Int)) :: t) := by
  have hb := oneF_bd h
  have h0 : oneF (s.extract i s.size) 0 = some (n, c) := by rw [oneF_ext s i 0 (by omega)]; exact h
  have hsz := ext_size s i (by omega)
  unfold charsR
  rw [charsF_good (by omega) h0]
  by_cases he : i + n = s.size
  · left
    refine ⟨he, ?_⟩
    rw [show (s.extract i s.size).size = (s.size - i - 1) + 1 by omega, charsF_end (by omega)]
    rfl
  · right
    refine ⟨by omega, ?_⟩
    obtain ⟨n', c', ho, _⟩ := hg.next (by omega)
    have h1 : oneF (s.extract i s.size) (0 + n) = some (n', c') := by rw [oneF_ext s i _ (by omega)]; simpa using ho
    rw [show (s.extract i s.size).size = (s.size - i - 1) + 1 by omega, charsF_good (by omega) h1]
    obtain ⟨t, ht⟩ := charsF_pre (s.extract i s.size) (s.size - i - 1) (0 + n + n') ([] ++ [(c, ((0 : Nat) : Int))] ++ [(c', ((0 + n : Nat) : Int))])
    exact ⟨c', t, by rw [ht]; simp⟩

/-- A byte below 128 is a character. -/
theorem oneF_ascii {s : ByteArray} {p : Nat} (h0 : 0 ≤ byteAt s p) (h1 : byteAt s p < 128) : oneF s p = some (1, byteAt s p) := by
  have hlt := (byteAt_nonneg s p).1 h0
  have hn : headK (byteAt s p) = 1 := by simp [headK, headN, h1]
  have hc : headC (byteAt s p) = byteAt s p := by simp [headC, h1]
  have hbc : badC 1 (byteAt s p) = false := by simp [badC, leastV]; omega
  unfold oneF
  rw [hn, if_neg (by omega), hc]
  simp [contF, hbc]

theorem Good.ascii {s : ByteArray} {p : Nat} (h : Good s p) (h0 : 0 ≤ byteAt s p) (h1 : byteAt s p < 128) : Good s (p + 1) := by
  have hlt := (byteAt_nonneg s p).1 h0
  obtain ⟨n, c, ho, hg⟩ := h.next hlt
  rw [oneF_ascii h0 h1] at ho
  simp at ho
  rw [← ho.1] at hg; exact hg

end Ref
end Go.Proofs.YtdhmllobgijggaaGreatDoor
namespace Go.Proofs.YtdhmllobgijggaaGreatDoor
open Go.RowKit

theorem spans_two {w : World} {base g : Nat} {cap : Nat} {x y : Int × Int} {t : List (Int × Int)} {T : TypeId} {n : Nat} (h : w.ownsRow base T 2 (.slice (some ⟨g, 0, none⟩) n cap) n (spanCells (x :: y :: t))) :
    w.cell? ⟨g, 0, none⟩ = some (.int .i64 x.1) ∧ w.cell? ⟨g, 3, none⟩ = some (.int .i64 y.2) :=
  ⟨h.cells rfl 0 _ rfl, h.cells rfl 3 _ rfl⟩

theorem own_form {w : World} {base : Nat} {T : TypeId} {size : Nat} {v : Value} {n : Nat} {xs : List Value} (h : w.ownsRow base T size v n xs) (hn : 0 < n) : ∃ g cap, v = .slice (some ⟨g, 0, none⟩) n cap ∧ base ≤ g ∧ g < w.heap.size ∧ n ≤ cap := by
  obtain ⟨h1, h2⟩ := h
  rcases h2 with ⟨_, h2⟩ | ⟨g, cap, cur, rfl, hb, hh, h3, _⟩
  · omega
  · exact ⟨g, cap, rfl, hb, (Array.getElem?_eq_some_iff.1 hh).1, h3⟩

set_option maxHeartbeats 800000 in
set_option maxRecDepth 100000 in
theorem char_any (b : Nat) (s : ByteArray) (st : St) (n : Nat) (c : Int) (w : World) (h : Lex w b s st) (hs : s.size ≤ 400) (hi : st.i < s.size) (ho : Ref.oneF s st.i = some (n, c)) (hg : Ref.Good s (st.i + n)) :
    Calls Tryz.prog 83 #[.pointer (some ⟨b, 0, none⟩)] w fun x w' =>
      ∃ sv, x = .returned (.agg #[.bool false, sv]) ∧ SpansAt w' w.heap.size sv [(c, c)] ∧ Lex w' b s (st.go n) ∧ Only (Mine b) w w' := by
  have hL1 := hide h
  have hlt := h.lt
  have hbd := Ref.oneF_bd ho
  have hce := Ref.chars_ext hi ho hg
  have Hce := hide hce
  have Ho := hide ho
  have Hg := hide hg
  have hn4 : n ≤ 4 := hbd.2.2.1
  clear hce ho hg hbd
  obtain ⟨c0, c1, c2, c3, f1, f2, f3⟩ := h
  have hL2 := hide ((unhide hL1).alloc (.cells #[.bool false, .slice none 0 0] 184))
  go_enter Tryz.func83, Tryz.ntmps83
  go_wp2_with fail
  go_region_with (go_at_call 33; refine (chars_any _ _ (by simp; omega)).mono ?_; rintro e w1 ⟨v, rfl, hch, hO⟩)
  all_goals
    have hL3 : Lex w1 b s st := Lex.keep (P := fun _ => False) (by first | exact unhide hL2 | exact (unhide hL2).drewN _) hO (fun f => f)
    have hsz : (w.alloc (Obj.cells #[Value.bool false, Value.slice none 0 0] 184)).drew.heap.size = w.heap.size + 1 := by simp
    have r0 : w1.cell? ⟨w.heap.size, 0, none⟩ = some (.bool false) := cell_kept hO _ _ (by first | exact new_cell _ _ (by simp) _ _ 0 _ rfl) (fun f => f)
    have r1 : w1.cell? ⟨w.heap.size, 1, none⟩ = some (.slice none 0 0) := cell_kept hO _ _ (by first | exact new_cell _ _ (by simp) _ _ 1 _ rfl) (fun f => f)
    have r2 : w1.frozen? ⟨w.heap.size, 0, none⟩ = false := frozen_kept hO _ (by rw [hsz]; simp) (by first | exact new_frozen _ _ (by simp) _ _ 0) (fun f => f)
    have r3 : w1.frozen? ⟨w.heap.size, 1, none⟩ = false := frozen_kept hO _ (by rw [hsz]; simp) (by first | exact new_frozen _ _ (by simp) _ _ 1) (fun f => f)
    have hL4 := hide hL3
    have hlt1 : w.heap.size < w1.heap.size := World.block_lt_of_cell? w1 ⟨w.heap.size, 0, none⟩ r0
    obtain ⟨d0, d1, d2, d3, g1, g2, g3⟩ := hL3
    rw [hsz] at hch
    have HO := hide hO
    clear hsz hO
    rcases unhide Hce with ⟨he, hl⟩ | ⟨he, c', t, hl⟩
    · unfold CharsAt at hch
      rw [hl] at hch
      obtain ⟨g, cap, rfl, hb1, hb2, hcap⟩ := own_form hch (by simp)
      have k0 : w1.cell? ⟨g, 0, none⟩ = some (.int .i64 c) := hch.cells rfl 0 _ rfl
      clear hl hch
      have Hee := hide he
      clear he
      go_wp2_with fail
      have he := unhide Hee
      refine bodyPost_ret (v := .agg #[.bool false, .slice (some ⟨w1.heap.size, 0, none⟩) 1 1]) (by simp [results, Tryz.results83, go_sem, r0, r1, hlt1]) rfl ?_
      refine ⟨_, rfl, spans_new' _ _ _ (by simp) (by omega) _ [(c, c)] rfl (by simp [maxLen]) 1 rfl, ?_, ?_⟩
      · exact (((unhide hL4).setI _ n (by omega)).keep (((Only.refl (Mine w.heap.size) _).mine _ _).mine _ _) (by unfold Mine; omega)).alloc _
      · exact (((((((((Only.refl (Mine b) w).alloc _).drewN 1).trans ((unhide HO).mono (fun _ _ f => f.elim)))).mine _ _).fresh ⟨w.heap.size, 0, none⟩ (Nat.le_refl _) _).fresh ⟨w.heap.size, 1, none⟩ (Nat.le_refl _) _)).alloc _
    · unfold CharsAt at hch
      rw [hl] at hch
      obtain ⟨g, cap, rfl, hb1, hb2, hcap⟩ := own_form hch (by simp)
      have k0 : w1.cell? ⟨g, 0, none⟩ = some (.int .i64 c) := hch.cells rfl 0 _ rfl
      have k3 : w1.cell? ⟨g, 3, none⟩ = some (.int .i64 n) := hch.cells rfl 3 _ rfl
      clear hl hch
      go_wp2_with fail
      go_region
      all_goals (try go_wp2_with fail)
      all_goals
        refine bodyPost_ret (v := .agg #[.bool false, .slice (some ⟨w1.heap.size, 0, none⟩) 1 1]) (by simp [results, Tryz.results83, go_sem, r0, r1, hlt1]) rfl ?_
        refine ⟨_, rfl, spans_new' _ _ _ (by simp) (by omega) _ [(c, c)] rfl (by simp [maxLen]) 1 rfl, ?_, ?_⟩
        · exact ((((unhide hL4).drewN _).setI _ n (by omega)).keep (((Only.refl (Mine w.heap.size) _).mine _ _).mine _ _) (by unfold Mine; omega)).alloc _
        · exact ((((((((((Only.refl (Mine b) w).alloc _).drewN 1).trans ((unhide HO).mono (fun _ _ f => f.elim)))).drewN _).mine _ _).fresh ⟨w.heap.size, 0, none⟩ (Nat.le_refl _) _).fresh ⟨w.heap.size, 1, none⟩ (Nat.le_refl _) _)).alloc _

end Go.Proofs.YtdhmllobgijggaaGreatDoor
namespace Go.Proofs.YtdhmllobgijggaaGreatDoor
open Go.RowKit

namespace Ref
def memberF (s : ByteArray) (st : St) : Pt × Bool × St :=
  if byteAt s st.i = 92 then escapeF s true st
  else match oneF s st.i with
    | some (n, c) => (⟨false, [(c, c)]⟩, true, st.go n)
    | none => (⟨false, []⟩, true, st)
def openF (s : ByteArray) (st : St) : St :=
  if byteAt s (st.i + 1) = 63 then
    (if byteAt s (st.i + 2) = 58 then st.go 3
     else if byteAt s (st.i + 2) = 61 ∨ byteAt s (st.i + 2) = 33 ∨ byteAt s (st.i + 2) = 60 then (st.go 2).fail 6 st.i
     else (st.go 2).fail 3 ((st.i + 2 : Nat) : Int))
  else st.go 1
def digitB (b : Int) : Bool := decide (48 ≤ b) && decide (b ≤ 57)
def countL (s : ByteArray) : Nat → Int → St → Int × St
  | 0, n, st => (n, st)
  | f + 1, n, st => if digitB (byteAt s st.i) = true then countL s f (if n ≤ 100 then 10 * n + byteAt s st.i - 48 else n) (st.go 1) else (n, st)
def countN (s : ByteArray) (st : St) : Int × St := countL s (s.size + 1 - st.i) 0 st
def countF (s : ByteArray) (st : St) : Int × St :=
  let r := countN s st
  let st1 := if r.2.i = st.i then r.2.fail 3 st.i else r.2
  (r.1, if 100 < r.1 then st1.fail 5 st.i else st1)
theorem countL_stop {s : ByteArray} {f : Nat} {n : Int} {st : St} (h : digitB (byteAt s st.i) = false) : countL s (f + 1) n st = (n, st) := by simp [countL, h]
theorem countL_go {s : ByteArray} {f : Nat} {n : Int} {st : St} (h : digitB (byteAt s st.i) = true) : countL s (f + 1) n st = countL s f (if n ≤ 100 then 10 * n + byteAt s st.i - 48 else n) (st.go 1) := by simp [countL, h]
end Ref

theorem Only.undrewN {P : Nat → Prop} {a w : World} {n : Nat} (h : Only P (a.drewN n) w) : Only P a w := ⟨h.os, h.tape, h.output, h.size, h.block⟩

theorem res2 {P : Nat → Prop} {W w : World} {n : Nat} {a0 a1 : Value} {T : TypeId} (h : Only P (W.alloc (.cells #[a0, a1] T)) w) (hn : W.heap.size = n) (hp : ¬ P n) :
    w.cell? ⟨n, 0, none⟩ = some a0 ∧ w.cell? ⟨n, 1, none⟩ = some a1 ∧ w.frozen? ⟨n, 0, none⟩ = false ∧ w.frozen? ⟨n, 1, none⟩ = false ∧ n < w.heap.size :=
  have r0 := cell_kept h ⟨n, 0, none⟩ _ (new_cell _ _ hn _ _ 0 _ rfl) hp
  ⟨r0, cell_kept h ⟨n, 1, none⟩ _ (new_cell _ _ hn _ _ 1 _ rfl) hp, frozen_kept h ⟨n, 0, none⟩ (by simp; omega) (new_frozen _ _ hn _ _ 0) hp, frozen_kept h ⟨n, 1, none⟩ (by simp; omega) (new_frozen _ _ hn _ _ 1) hp,
   World.block_lt_of_cell? w ⟨n, 0, none⟩ r0⟩

theorem res6 {P : Nat → Prop} {W w : World} {n : Nat} {a0 a1 a2 a3 a4 a5 : Value} {T : TypeId} (h : Only P (W.alloc (.cells #[a0, a1, a2, a3, a4, a5] T)) w) (hn : W.heap.size = n) (hp : ¬ P n) :
    (w.cell? ⟨n, 0, none⟩ = some a0 ∧ w.cell? ⟨n, 1, none⟩ = some a1 ∧ w.cell? ⟨n, 2, none⟩ = some a2 ∧ w.cell? ⟨n, 3, none⟩ = some a3 ∧ w.cell? ⟨n, 4, none⟩ = some a4 ∧ w.cell? ⟨n, 5, none⟩ = some a5) ∧
    (w.frozen? ⟨n, 0, none⟩ = false ∧ w.frozen? ⟨n, 1, none⟩ = false ∧ w.frozen? ⟨n, 2, none⟩ = false ∧ w.frozen? ⟨n, 3, none⟩ = false ∧ w.frozen? ⟨n, 4, none⟩ = false ∧ w.frozen? ⟨n, 5, none⟩ = false) ∧ n < w.heap.size :=
  have r0 := cell_kept h ⟨n, 0, none⟩ _ (new_cell _ _ hn _ _ 0 _ rfl) hp
  ⟨⟨r0, cell_kept h ⟨n, 1, none⟩ _ (new_cell _ _ hn _ _ 1 _ rfl) hp, cell_kept h ⟨n, 2, none⟩ _ (new_cell _ _ hn _ _ 2 _ rfl) hp, cell_kept h ⟨n, 3, none⟩ _ (new_cell _ _ hn _ _ 3 _ rfl) hp, cell_kept h ⟨n, 4, none⟩ _ (new_cell _ _ hn _ _ 4 _ rfl) hp, cell_kept h ⟨n, 5, none⟩ _ (new_cell _ _ hn _ _ 5 _ rfl) hp⟩,
   ⟨frozen_kept h ⟨n, 0, none⟩ (by simp; omega) (new_frozen _ _ hn _ _ 0) hp, frozen_kept h ⟨n, 1, none⟩ (by simp; omega) (new_frozen _ _ hn _ _ 1) hp, frozen_kept h ⟨n, 2, none⟩ (by simp; omega) (new_frozen _ _ hn _ _ 2) hp,
    frozen_kept h ⟨n, 3, none⟩ (by simp; omega) (new_frozen _ _ hn _ _ 3) hp, frozen_kept h ⟨n, 4, none⟩ (by simp; omega) (new_frozen _ _ hn _ _ 4) hp, frozen_kept h ⟨n, 5, none⟩ (by simp; omega) (new_frozen _ _ hn _ _ 5) hp⟩,
   World.block_lt_of_cell? w ⟨n, 0, none⟩ r0⟩

theorem own_slice {w : World} {base : Nat} {T : TypeId} {size : Nat} {v : Value} {n : Nat} {xs : List Value} (h : w.ownsRow base T size v n xs) : ∃ a k c, v = .slice a k c := by
  obtain ⟨h1, h2⟩ := h
  rcases h2 with ⟨rfl, _⟩ | ⟨g, cap, cur, rfl, _⟩
  · exact ⟨_, _, _, rfl⟩
  · exact ⟨_, _, _, rfl⟩

/-- Two cells of a block are stored: that block alone turns. -/
theorem Only.two (n : Nat) (w : World) (u0 u1 : Value) : Only (Mine n) w ((w.setCell ⟨n, 0, none⟩ u0).setCell ⟨n, 1, none⟩ u1) := ((Only.refl _ _).mine _ _).mine _ _
theorem Only.six (n : Nat) (w : World) (u0 u1 u2 u3 u4 u5 : Value) : Only (Mine n) w ((((((w.setCell ⟨n, 0, none⟩ u0).setCell ⟨n, 1, none⟩ u1).setCell ⟨n, 2, none⟩ u2).setCell ⟨n, 3, none⟩ u3).setCell ⟨n, 4, none⟩ u4).setCell ⟨n, 5, none⟩ u5) :=
  ((((((Only.refl _ _).mine _ _).mine _ _).mine _ _).mine _ _).mine _ _).mine _ _
/-- What turns only a block that is younger than the beginning turns nothing. -/
theorem Only.young {P : Nat → Prop} {a w w' : World} {n : Nat} (h : Only P a w) (k : Only (Mine n) w w') (hn : a.heap.size ≤ n) : Only P a w' :=
  ⟨k.os.trans h.os, k.tape.trans h.tape, k.output.trans h.output, Nat.le_trans h.size k.size, fun i hi hp => (k.block i (Nat.lt_of_lt_of_le hi h.size) (by unfold Mine; omega)).trans (h.block i hi hp)⟩

set_option maxHeartbeats 400000 in
theorem member_any (b : Nat) (s : ByteArray) (st : St) (w : World) (h : Lex w b s st) (hs : s.size ≤ 400) (hi : st.i < s.size) (hg : Ref.Good s st.i) :
    Calls Tryz.prog 95 #[.pointer (some ⟨b, 0, none⟩)] w fun x w' =>
      ∃ sv, x = .returned (.tuple #[.agg #[.bool (Ref.memberF s st).1.neg, sv], .bool (Ref.memberF s st).2.1]) ∧ SpansAt w' w.heap.size sv (Ref.memberF s st).1.spans ∧
        Lex w' b s (Ref.memberF s st).2.2 ∧ Only (Mine b) w w' := by
  have hlt := h.lt
  obtain ⟨n, c, ho, hgn⟩ := hg.next hi
  have hL1 := hide (h.alloc (.cells #[.bool false, .slice none 0 0] 184))
  by_cases hb : byteAt s st.i = 92
  · have hbb : (byteAt s st.i == 92) = true := by simp [hb]
    have HF : Hid (Ref.memberF s st = Ref.escapeF s true st) := by show _ = _; unfold Ref.memberF; rw [if_pos hb]
    clear ho hg hgn hb
    go_enter Tryz.func95, Tryz.ntmps95
    go_wp2_with fail
    refine (now_lex b s st _ (unhide hL1) hs).mono ?_
    rintro e w1 ⟨rfl, nq, rfl⟩
    go_wp2_with fail
    refine (escape_any b s true st _ ((unhide hL1).drewN _) hs hi).mono ?_
    rintro e w2 ⟨sv, rfl, hsp, hL2, hO2⟩
    obtain ⟨r0, r1, r2, r3, hsz⟩ := res2 hO2.undrewN rfl (by unfold Mine; omega)
    have Hsp := hide (hsp.base (base' := w.heap.size + 1) (by simp))
    have HL2 := hide hL2
    have HO2 := hide hO2.undrewN
    obtain ⟨v0, v1, v2, rfl⟩ := own_slice hsp
    clear hsp hL2 hO2
    go_wp2_with fail
    refine bodyPost_ret (v := .tuple #[.agg #[.bool (Ref.escapeF s true st).1.neg, .slice v0 v1 v2], .bool (Ref.escapeF s true st).2.1]) (by simp [results, Tryz.results95, go_sem, r0, r1]) rfl ?_
    rw [unhide HF]
    refine ⟨_, rfl, ?_, ?_, ?_⟩
    · exact ((unhide Hsp).keep (Only.two w.heap.size _ _ _) (by intro g hg _ hh; unfold Mine at hh; omega)).base (by omega)
    · exact (unhide HL2).keep (Only.two w.heap.size _ _ _) (by unfold Mine; omega)
    · exact (((Only.refl _ _).alloc _).trans (unhide HO2)).young (Only.two w.heap.size _ _ _) (Nat.le_refl _)
  · have hbb : (byteAt s st.i == 92) = false := by simp [hb]
    have HF : Hid (Ref.memberF s st = (⟨false, [(c, c)]⟩, true, st.go n)) := by show _ = _; unfold Ref.memberF; rw [if_neg hb, ho]
    have Ho := hide ho
    have Hg := hide hgn
    clear ho hg hgn hb
    go_enter Tryz.func95, Tryz.ntmps95
    go_wp2_with fail
    refine (now_lex b s st _ (unhide hL1) hs).mono ?_
    rintro e w1 ⟨rfl, nq, rfl⟩
    go_wp2_with fail
    refine (char_any b s st n c _ ((unhide hL1).drewN _) hs hi (unhide Ho) (unhide Hg)).mono ?_
    rintro e w2 ⟨sv, rfl, hsp, hL2, hO2⟩
    obtain ⟨r0, r1, r2, r3, hsz⟩ := res2 hO2.undrewN rfl (by unfold Mine; omega)
    have Hsp := hide (hsp.base (base' := w.heap.size + 1) (by simp))
    have HL2 := hide hL2
    have HO2 := hide hO2.undrewN
    obtain ⟨v0, v1, v2, rfl⟩ := own_slice hsp
    clear hsp hL2 hO2
    go_wp2_with fail
    refine bodyPost_ret (v := .tuple #[.agg #[.bool false, .slice v0 v1 v2], .bool true]) (by simp [results, Tryz.results95, go_sem, r0, r1]) rfl ?_
    rw [unhide HF]
    refine ⟨_, rfl, ?_, ?_, ?_⟩
    · exact ((unhide Hsp).keep (Only.two w.heap.size _ _ _) (by intro g hg _ hh; unfold Mine at hh; omega)).base (by omega)
    · exact (unhide HL2).keep (Only.two w.heap.size _ _ _) (by unfold Mine; omega)
    · exact (((Only.refl _ _).alloc _).trans (unhide HO2)).young (Only.two w.heap.size _ _ _) (Nat.le_refl _)

/-- The six cells of a token's result, as they lie at first. -/
def tokZero : Array Value := #[.int .i64 0, .bool false, .slice none 0 0, .int .i64 0, .int .i64 0, .int .i64 0]

set_option maxHeartbeats 800000 in
theorem open_any (b : Nat) (s : ByteArray) (st : St) (w : World) (h : Lex w b s st) (hs : s.size ≤ 400) (hi : st.i < s.size) :
    Calls Tryz.prog 82 #[.pointer (some ⟨b, 0, none⟩)] w fun x w' =>
      x = .returned (.agg #[.int .i64 3, .bool false, .slice none 0 0, .int .i64 0, .int .i64 0, .int .i64 0]) ∧ Lex w' b s (Ref.openF s st) ∧ Only (Mine b) w w' := by
  have hlt := h.lt
  have hL1 := hide h
  obtain ⟨c0, c1, c2, c3, f1, f2, f3⟩ := h
  go_enter Tryz.func82, Tryz.ntmps82
  go_wp2_with fail
  have hL2 := hide (((unhide hL1).setI ((st.i : Int) + 1) 1 (by omega)).alloc (.cells #[.int .i64 0, .bool false, .slice none 0 0, .int .i64 0, .int .i64 0, .int .i64 0] 151))
  have hO1 := hide (((Only.refl (Mine b) w).mine 1 (.int .i64 ((st.i : Int) + 1))).alloc (.cells #[.int .i64 0, .bool false, .slice none 0 0, .int .i64 0, .int .i64 0, .int .i64 0] 151))
  refine (now_lex b s (st.go 1) _ (unhide hL2) hs).mono ?_
  rintro e w1 ⟨rfl, nq, rfl⟩
  simp only [St.go]
  by_cases h1 : byteAt s (st.i + 1) = 63
  · have hb1 : (byteAt s (st.i + 1) == 63) = true := by simp [h1]
    go_wp2_with fail
    have hL3 := hide (((unhide hL2).drewN nq).setI ((st.i : Int) + 1 + 1) 1 (by simp only [St.go]; omega))
    have hO3 := hide (((unhide hO1).drewN nq).mine 1 (.int .i64 ((st.i : Int) + 1 + 1)))
    refine (now_lex b s ((st.go 1).go 1) _ (unhide hL3) hs).mono ?_
    rintro e w1 ⟨rfl, nq1, rfl⟩
    simp only [St.go]
    rw [show st.i + 1 + 1 = st.i + 2 from rfl]
    by_cases h2 : byteAt s (st.i + 2) = 58
    · have hb2 : (byteAt s (st.i + 2) == 58) = true := by simp [h2]
      have HF : Hid (Ref.openF s st = st.go 3) := by show _ = _; unfold Ref.openF; rw [if_pos h1, if_pos h2]
      clear h1 h2
      go_wp2_with fail
      refine bodyPost_ret (v := .agg #[.int .i64 3, .bool false, .slice none 0 0, .int .i64 0, .int .i64 0, .int .i64 0]) (by simp [results, Tryz.results82, go_sem]) rfl ?_
      rw [unhide HF]
      exact ⟨rfl, (((unhide hL3).drewN nq1).setI _ 1 (by simp only [St.go]; omega)).keep (Only.six w.heap.size _ _ _ _ _ _ _) (by unfold Mine; omega), (((unhide hO3).drewN nq1).mine 1 _).young (Only.six w.heap.size _ _ _ _ _ _ _) (Nat.le_refl _)⟩
    · have hb2 : (byteAt s (st.i + 2) == 58) = false := by simp [h2]
      by_cases h3 : byteAt s (st.i + 2) = 61 ∨ byteAt s (st.i + 2) = 33 ∨ byteAt s (st.i + 2) = 60
      · have HF : Hid (Ref.openF s st = (st.go 2).fail 6 st.i) := by show _ = _; unfold Ref.openF; rw [if_pos h1, if_neg h2, if_pos h3]
        have h3' : (byteAt s (st.i + 2) == 61) = true ∨ (byteAt s (st.i + 2) == 61) = false ∧ ((byteAt s (st.i + 2) == 33) = true ∨ (byteAt s (st.i + 2) == 33) = false ∧ (byteAt s (st.i + 2) == 60) = true) := by simp; omega
        clear h1 h2 h3
        rcases h3' with y1 | ⟨y1, y2 | ⟨y2, y3⟩⟩
        all_goals
          go_wp2_with fail
          refine (fail_lex b s (st.go 2) 6 _ _ ((unhide hL3).drewN nq1)).mono ?_
          rintro e w2 ⟨rfl, hL4, hO4⟩
          obtain ⟨⟨r0, r1, r2, r3, r4, r5⟩, ⟨q0, q1, q2, q3, q4, q5⟩, hsz⟩ := res6 (P := Mine b) (n := w.heap.size) (((((Only.refl _ _).drewN nq).mine 1 _).drewN nq1).trans hO4) (by simp) (by unfold Mine; omega)
          have HL4 := hide hL4
          have HO4 := hide (((unhide hO3).drewN nq1).trans hO4)
          clear hL4 hO4
          go_wp2_with fail
          refine bodyPost_ret (v := .agg #[.int .i64 3, .bool false, .slice none 0 0, .int .i64 0, .int .i64 0, .int .i64 0]) (by simp [results, Tryz.results82, go_sem, r0, r1, r2, r3, r4, r5]) rfl ?_
          rw [unhide HF]
          exact ⟨rfl, (unhide HL4).keep (Only.six w.heap.size _ _ _ _ _ _ _) (by unfold Mine; omega), (unhide HO4).young (Only.six w.heap.size _ _ _ _ _ _ _) (Nat.le_refl _)⟩
      · have HF : Hid (Ref.openF s st = (st.go 2).fail 3 ((st.i + 2 : Nat) : Int)) := by show _ = _; unfold Ref.openF; rw [if_pos h1, if_neg h2, if_neg h3]
        have h3' : (byteAt s (st.i + 2) == 61) = false ∧ (byteAt s (st.i + 2) == 33) = false ∧ (byteAt s (st.i + 2) == 60) = false := by simp; omega
        obtain ⟨y1, y2, y3⟩ := h3'
        clear h1 h2 h3
        go_wp2_with fail
        refine (fail_lex b s (st.go 2) 3 _ _ ((unhide hL3).drewN nq1)).mono ?_
        rintro e w2 ⟨rfl, hL4, hO4⟩
        obtain ⟨⟨r0, r1, r2, r3, r4, r5⟩, ⟨q0, q1, q2, q3, q4, q5⟩, hsz⟩ := res6 (P := Mine b) (n := w.heap.size) (((((Only.refl _ _).drewN nq).mine 1 _).drewN nq1).trans hO4) (by simp) (by unfold Mine; omega)
        have HL4 := hide hL4
        have HO4 := hide (((unhide hO3).drewN nq1).trans hO4)
        clear hL4 hO4
        go_wp2_with fail
        refine bodyPost_ret (v := .agg #[.int .i64 3, .bool false, .slice none 0 0, .int .i64 0, .int .i64 0, .int .i64 0]) (by simp [results, Tryz.results82, go_sem, r0, r1, r2, r3, r4, r5]) rfl ?_
        rw [unhide HF]
        exact ⟨rfl, (unhide HL4).keep (Only.six w.heap.size _ _ _ _ _ _ _) (by unfold Mine; omega), (unhide HO4).young (Only.six w.heap.size _ _ _ _ _ _ _) (Nat.le_refl _)⟩
  · have hb1 : (byteAt s (st.i + 1) == 63) = false := by simp [h1]
    have HF : Hid (Ref.openF s st = st.go 1) := by show _ = _; unfold Ref.openF; rw [if_neg h1]
    clear h1
    go_wp2_with fail
    refine bodyPost_ret (v := .agg #[.int .i64 3, .bool false, .slice none 0 0, .int .i64 0, .int .i64 0, .int .i64 0]) (by simp [results, Tryz.results82, go_sem]) rfl ?_
    rw [unhide HF]
    exact ⟨rfl, ((unhide hL2).drewN nq).keep (Only.six w.heap.size _ _ _ _ _ _ _) (by unfold Mine; omega), ((unhide hO1).drewN nq).young (Only.six w.heap.size _ _ _ _ _ _ _) (Nat.le_refl _)⟩

end Go.Proofs.YtdhmllobgijggaaGreatDoor
namespace Go.Proofs.YtdhmllobgijggaaGreatDoor
open Go.RowKit

namespace Ref
theorem digitB_true {b : Int} (h : digitB b = true) : 48 ≤ b ∧ b ≤ 57 := by simpa [digitB] using h
theorem digitB_false {b : Int} (h : digitB b = false) : ¬ (48 ≤ b ∧ b ≤ 57) := by
  intro ⟨h1, h2⟩; simp [digitB, h1, h2] at h
theorem countF_eq {s : ByteArray} {st st' : St} {n : Int} (h : countN s st = (n, st')) : countF s st = (n, if 100 < n then (if st'.i = st.i then st'.fail 3 st.i else st').fail 5 st.i else (if st'.i = st.i then st'.fail 3 st.i else st')) := by
  unfold countF; rw [h]
end Ref

/-- Where the lexer in a block stands: for a loop's measure. -/
def lexI (w : World) (b : Nat) : Nat := match w.cell? ⟨b, 1, none⟩ with
  | some v => (intOf v).toNat
  | none => 0
theorem lexI_of {w : World} {b : Nat} {s : ByteArray} {st : St} (h : Lex w b s st) : lexI w b = st.i := by unfold lexI; rw [h.c1]; simp [intOf]

set_option maxHeartbeats 800000 in
theorem count_any (b : Nat) (s : ByteArray) (st : St) (w : World) (h : Lex w b s st) (hs : s.size ≤ 400) (hi : st.i ≤ s.size) :
    Calls Tryz.prog 94 #[.pointer (some ⟨b, 0, none⟩)] w fun x w' =>
      x = .returned (.int .i64 (Ref.countF s st).1) ∧ Lex w' b s (Ref.countF s st).2 ∧ Only (Mine b) w w' := by
  have hL1 := hide h
  obtain ⟨c0, c1, c2, c3, f1, f2, f3⟩ := h
  go_enter Tryz.func94, Tryz.ntmps94
  go_wp2_with fail
  go_loopw [4] (fun n wr => ∃ (q : Int) (st' : St), n = .int .i64 q ∧ 0 ≤ q ∧ q ≤ 2000 ∧ st'.i ≤ s.size ∧ Lex wr b s st' ∧ Only (Mine b) w wr ∧ Hid (Ref.countN s st = Ref.countL s (s.size + 1 - st'.i) q st'))
    (fun _ wr => s.size - lexI wr b)
  case atStart => exact ⟨0, st, rfl, by omega, by omega, hi, unhide hL1, Only.refl _ _, rfl⟩
  case round =>
    obtain ⟨q, st', rfl, hq0, hq1, hi', hL, hO, HF⟩ := hrel
    have hfu : Hid (s.size + 1 - st'.i = (s.size - st'.i) + 1) := by show _ = _; omega
    have hL2 := hide hL
    clear c0 c1 c2 c3 f1 f2 f3
    cases hd : Ref.digitB (byteAt s st'.i)
    · have HG : Hid (Ref.countN s st = (q, st')) := by rw [unhide HF, unhide hfu]; exact Ref.countL_stop hd
      have hnd := Ref.digitB_false hd
      clear hd
      by_cases hlo : 48 ≤ byteAt s st'.i
      · have hhi : 57 < byteAt s st'.i := by omega
        have hhd : decide (byteAt s st'.i ≤ 57) = false := by simp; omega
        clear hnd
        go_wp2_with fail
        refine (now_lex b s st' _ hL hs).mono ?_
        rintro e w1 ⟨rfl, nq, rfl⟩
        go_wp2_with fail
        refine (now_lex b s st' _ (hL.drewN _) hs).mono ?_
        rintro e w1 ⟨rfl, nq1, rfl⟩
        obtain ⟨c0, c1, c2, c3, f1, f2, f3⟩ := hL
        by_cases he : st'.i = st.i
        · have hb : ((st'.i : Int) == (st.i : Int)) = true := by simp [he]
          have Hee := hide he
          clear he
          go_wp2_with fail
          refine (fail_lex b s st' 3 _ _ ((unhide hL2).drewN _)).mono ?_
          rintro e w2 ⟨rfl, hL3, hO3⟩
          by_cases hn : 100 < q
          · have HH : Hid (Ref.countF s st = (q, (st'.fail 3 st.i).fail 5 st.i)) := by rw [Ref.countF_eq (unhide HG), if_pos hn, if_pos (unhide Hee)]; rfl
            go_wp2_with fail
            refine (fail_lex b s _ 5 _ _ hL3).mono ?_
            rintro e w3 ⟨rfl, hL4, hO4⟩
            go_wp2_with fail
            go_ret
            rw [unhide HH]
            exact ⟨rfl, hL4, ((hO.drewN _).trans hO3).trans hO4⟩
          · have HH : Hid (Ref.countF s st = (q, (st'.fail 3 st.i))) := by rw [Ref.countF_eq (unhide HG), if_neg hn, if_pos (unhide Hee)]; rfl
            go_wp2_with fail
            go_ret
            rw [unhide HH]
            exact ⟨rfl, hL3, ((hO.drewN _).trans hO3)⟩
        · have hb : ((st'.i : Int) == (st.i : Int)) = false := by simp; omega
          have Hee := hide he
          clear he
          by_cases hn : 100 < q
          · have HH : Hid (Ref.countF s st = (q, st'.fail 5 st.i)) := by rw [Ref.countF_eq (unhide HG), if_pos hn, if_neg (unhide Hee)]; rfl
            go_wp2_with fail
            refine (fail_lex b s st' 5 _ _ ((unhide hL2).drewN _)).mono ?_
            rintro e w3 ⟨rfl, hL4, hO4⟩
            go_wp2_with fail
            go_ret
            rw [unhide HH]
            exact ⟨rfl, hL4, (hO.drewN _).trans hO4⟩
          · have HH : Hid (Ref.countF s st = (q, st')) := by rw [Ref.countF_eq (unhide HG), if_neg hn, if_neg (unhide Hee)]; rfl
            go_wp2_with fail
            go_ret
            rw [unhide HH]
            exact ⟨rfl, (unhide hL2).drewN _, hO.drewN _⟩
      · clear hnd
        have hhd : decide (48 ≤ byteAt s st'.i) = false := by simp; omega
        go_wp2_with fail
        refine (now_lex b s st' _ hL hs).mono ?_
        rintro e w1 ⟨rfl, nq, rfl⟩
        obtain ⟨c0, c1, c2, c3, f1, f2, f3⟩ := hL
        by_cases he : st'.i = st.i
        · have hb : ((st'.i : Int) == (st.i : Int)) = true := by simp [he]
          have Hee := hide he
          clear he
          go_wp2_with fail
          refine (fail_lex b s st' 3 _ _ ((unhide hL2).drewN _)).mono ?_
          rintro e w2 ⟨rfl, hL3, hO3⟩
          by_cases hn : 100 < q
          · have HH : Hid (Ref.countF s st = (q, (st'.fail 3 st.i).fail 5 st.i)) := by rw [Ref.countF_eq (unhide HG), if_pos hn, if_pos (unhide Hee)]; rfl
            go_wp2_with fail
            refine (fail_lex b s _ 5 _ _ hL3).mono ?_
            rintro e w3 ⟨rfl, hL4, hO4⟩
            go_wp2_with fail
            go_ret
            rw [unhide HH]
            exact ⟨rfl, hL4, ((hO.drewN _).trans hO3).trans hO4⟩
          · have HH : Hid (Ref.countF s st = (q, (st'.fail 3 st.i))) := by rw [Ref.countF_eq (unhide HG), if_neg hn, if_pos (unhide Hee)]; rfl
            go_wp2_with fail
            go_ret
            rw [unhide HH]
            exact ⟨rfl, hL3, ((hO.drewN _).trans hO3)⟩
        · have hb : ((st'.i : Int) == (st.i : Int)) = false := by simp; omega
          have Hee := hide he
          clear he
          by_cases hn : 100 < q
          · have HH : Hid (Ref.countF s st = (q, st'.fail 5 st.i)) := by rw [Ref.countF_eq (unhide HG), if_pos hn, if_neg (unhide Hee)]; rfl
            go_wp2_with fail
            refine (fail_lex b s st' 5 _ _ ((unhide hL2).drewN _)).mono ?_
            rintro e w3 ⟨rfl, hL4, hO4⟩
            go_wp2_with fail
            go_ret
            rw [unhide HH]
            exact ⟨rfl, hL4, (hO.drewN _).trans hO4⟩
          · have HH : Hid (Ref.countF s st = (q, st')) := by rw [Ref.countF_eq (unhide HG), if_neg hn, if_neg (unhide Hee)]; rfl
            go_wp2_with fail
            go_ret
            rw [unhide HH]
            exact ⟨rfl, (unhide hL2).drewN _, hO.drewN _⟩
    · have HG : Hid (Ref.countN s st = Ref.countL s (s.size + 1 - (st'.go 1).i) (if q ≤ 100 then 10 * q + byteAt s st'.i - 48 else q) (st'.go 1)) := by
        rw [unhide HF, unhide hfu, show s.size + 1 - (st'.go 1).i = s.size - st'.i by simp only [St.go]; omega]; exact Ref.countL_go hd
      obtain ⟨hlo, hhi⟩ := Ref.digitB_true hd
      have hlt : st'.i < s.size := by rw [← byteAt_nonneg]; omega
      clear hd
      go_wp2_with fail
      refine (now_lex b s st' _ hL hs).mono ?_
      rintro e w1 ⟨rfl, nq, rfl⟩
      go_wp2_with fail
      refine (now_lex b s st' _ (hL.drewN _) hs).mono ?_
      rintro e w1 ⟨rfl, nq1, rfl⟩
      by_cases hn : q ≤ 100
      · have HG1 : Hid (Ref.countN s st = Ref.countL s (s.size + 1 - (st'.go 1).i) (10 * q + byteAt s st'.i - 48) (st'.go 1)) := by rw [unhide HG, if_pos hn]; rfl
        go_wp2_with fail
        refine (now_lex b s st' _ (hL.drewN _) hs).mono ?_
        rintro e w1 ⟨rfl, nq2, rfl⟩
        obtain ⟨c0, c1, c2, c3, f1, f2, f3⟩ := hL
        go_wp2_with fail
        have hLn := ((unhide hL2).drewN (nq + nq1 + nq2)).setI ((st'.i : Int) + 1) 1 (by omega)
        go_roundw
        case rel => exact ⟨_, st'.go 1, rfl, by omega, by omega, by simp only [St.go]; omega, hLn, (hO.drewN _).mine _ _, HG1⟩
        case measure => rw [lexI_of (unhide hL2), lexI_of hLn]; simp only [St.go]; omega
      · have HG1 : Hid (Ref.countN s st = Ref.countL s (s.size + 1 - (st'.go 1).i) q (st'.go 1)) := by rw [unhide HG, if_neg hn]; rfl
        obtain ⟨c0, c1, c2, c3, f1, f2, f3⟩ := hL
        go_wp2_with fail
        have hLn := ((unhide hL2).drewN (nq + nq1)).setI ((st'.i : Int) + 1) 1 (by omega)
        go_roundw
        case rel => exact ⟨_, st'.go 1, rfl, by omega, by omega, by simp only [St.go]; omega, hLn, (hO.drewN _).mine _ _, HG1⟩
        case measure => rw [lexI_of (unhide hL2), lexI_of hLn]; simp only [St.go]; omega

end Go.Proofs.YtdhmllobgijggaaGreatDoor
namespace Go.Proofs.YtdhmllobgijggaaGreatDoor
open Go.RowKit

namespace Ref
/-- Behind the first number: the greatest, and where the lexer stands. -/
def restF (s : ByteArray) (mn : Int) (st : St) : Int × St :=
  if st.e = 0 ∧ byteAt s st.i = 44 then
    (if byteAt s (st.i + 1) = 125 then (-1, st.go 1) else countF s (st.go 1))
  else (mn, st)
def braceF (s : ByteArray) (st : St) : St := if st.e = 0 ∧ byteAt s st.i ≠ 125 then st.fail 3 st.i else st
def countsF (s : ByteArray) (st : St) : Int × Int × St :=
  let r1 := countF s (st.go 1)
  let r2 := restF s r1.1 r1.2
  let st3 := (braceF s r2.2).go 1
  (r1.1, r2.1, if st3.e = 0 ∧ 0 ≤ r2.1 ∧ r2.1 < r1.1 then st3.fail 4 st.i else st3)
def lazyF (s : ByteArray) (st : St) : St := if st.e = 0 ∧ byteAt s st.i = 63 then st.go 1 else st
def quantF (s : ByteArray) (st : St) : Int × Int × St :=
  if byteAt s st.i = 43 then (1, -1, lazyF s (st.go 1))
  else if byteAt s st.i = 63 then (0, 1, lazyF s (st.go 1))
  else if byteAt s st.i = 42 then (0, -1, lazyF s (st.go 1))
  else ((countsF s st).1, (countsF s st).2.1, lazyF s (countsF s st).2.2)
theorem countL_bd (s : ByteArray) : ∀ (f : Nat) (n : Int) (st : St), 0 ≤ n → n ≤ 2000 → 0 ≤ (countL s f n st).1 ∧ (countL s f n st).1 ≤ 2000 ∧ st.i ≤ (countL s f n st).2.i ∧ (st.i ≤ s.size → (countL s f n st).2.i ≤ s.size)
  | 0, n, st, h0, h1 => by simp only [countL]; omega
  | f + 1, n, st, h0, h1 => by
    cases hd : digitB (byteAt s st.i)
    · rw [countL_stop hd]; simp only []; omega
    · rw [countL_go hd]
      have hb := digitB_true hd
      have hlt : st.i < s.size := by rw [← byteAt_nonneg]; omega
      have h := countL_bd s f (if n ≤ 100 then 10 * n + byteAt s st.i - 48 else n) (st.go 1) (by split <;> omega) (by split <;> omega)
      simp only [St.go] at h ⊢
      omega
theorem fail_i (st : St) (e a : Int) : (st.fail e a).i = st.i := by unfold St.fail; split <;> rfl
theorem countF_i (s : ByteArray) (st : St) : (countF s st).2.i = (countN s st).2.i := by
  unfold countF
  dsimp only
  split
  · rw [fail_i]; split
    · rw [fail_i]
    · rfl
  · split
    · rw [fail_i]
    · rfl
theorem countF_bd (s : ByteArray) (st : St) : 0 ≤ (countF s st).1 ∧ (countF s st).1 ≤ 2000 ∧ st.i ≤ (countF s st).2.i ∧ (st.i ≤ s.size → (countF s st).2.i ≤ s.size) := by
  rw [countF_i]
  exact countL_bd s (s.size + 1 - st.i) 0 st (by omega) (by omega)
end Ref

/-- Six cells of a block, none frozen. -/
structure Six (w : World) (n : Nat) (a0 a1 a2 a3 a4 a5 : Value) : Prop where
  c0 : w.cell? ⟨n, 0, none⟩ = some a0
  c1 : w.cell? ⟨n, 1, none⟩ = some a1
  c2 : w.cell? ⟨n, 2, none⟩ = some a2
  c3 : w.cell? ⟨n, 3, none⟩ = some a3
  c4 : w.cell? ⟨n, 4, none⟩ = some a4
  c5 : w.cell? ⟨n, 5, none⟩ = some a5
  f0 : w.frozen? ⟨n, 0, none⟩ = false
  f1 : w.frozen? ⟨n, 1, none⟩ = false
  f2 : w.frozen? ⟨n, 2, none⟩ = false
  f3 : w.frozen? ⟨n, 3, none⟩ = false
  f4 : w.frozen? ⟨n, 4, none⟩ = false
  f5 : w.frozen? ⟨n, 5, none⟩ = false

section
variable {P : Nat → Prop} {w w' : World} {n : Nat} {a0 a1 a2 a3 a4 a5 : Value}
theorem Six.lt (h : Six w n a0 a1 a2 a3 a4 a5) : n < w.heap.size := World.block_lt_of_cell? w ⟨n, 0, none⟩ h.c0
theorem Six.keep (h : Six w n a0 a1 a2 a3 a4 a5) (k : Only P w w') (hn : ¬ P n) : Six w' n a0 a1 a2 a3 a4 a5 :=
  ⟨cell_kept k ⟨n, 0, none⟩ _ h.c0 hn, cell_kept k ⟨n, 1, none⟩ _ h.c1 hn, cell_kept k ⟨n, 2, none⟩ _ h.c2 hn, cell_kept k ⟨n, 3, none⟩ _ h.c3 hn, cell_kept k ⟨n, 4, none⟩ _ h.c4 hn, cell_kept k ⟨n, 5, none⟩ _ h.c5 hn,
   frozen_kept k ⟨n, 0, none⟩ h.lt h.f0 hn, frozen_kept k ⟨n, 1, none⟩ h.lt h.f1 hn, frozen_kept k ⟨n, 2, none⟩ h.lt h.f2 hn, frozen_kept k ⟨n, 3, none⟩ h.lt h.f3 hn, frozen_kept k ⟨n, 4, none⟩ h.lt h.f4 hn, frozen_kept k ⟨n, 5, none⟩ h.lt h.f5 hn⟩
theorem Six.new (W : World) (T : TypeId) (hn : W.heap.size = n) : Six (W.alloc (.cells #[a0, a1, a2, a3, a4, a5] T)) n a0 a1 a2 a3 a4 a5 :=
  ⟨new_cell _ _ hn _ _ 0 _ rfl, new_cell _ _ hn _ _ 1 _ rfl, new_cell _ _ hn _ _ 2 _ rfl, new_cell _ _ hn _ _ 3 _ rfl, new_cell _ _ hn _ _ 4 _ rfl, new_cell _ _ hn _ _ 5 _ rfl,
   new_frozen _ _ hn _ _ 0, new_frozen _ _ hn _ _ 1, new_frozen _ _ hn _ _ 2, new_frozen _ _ hn _ _ 3, new_frozen _ _ hn _ _ 4, new_frozen _ _ hn _ _ 5⟩
theorem Six.drewN (h : Six w n a0 a1 a2 a3 a4 a5) (k : Nat) : Six (w.drewN k) n a0 a1 a2 a3 a4 a5 := h.keep ((Only.refl (fun _ => False) w).drewN k) (fun f => f)
theorem Six.other (h : Six w n a0 a1 a2 a3 a4 a5) (p : Addr) (hp : p.block ≠ n) (u : Value) : Six (w.setCell p u) n a0 a1 a2 a3 a4 a5 :=
  h.keep (P := Mine p.block) ((Only.refl (Mine p.block) w).setCell (p := p) (Or.inl (show p.block = p.block from rfl)) u) (fun e => hp e.symm)
theorem Six.set1 (h : Six w n a0 a1 a2 a3 a4 a5) (u : Value) : Six (w.setCell ⟨n, 1, none⟩ u) n a0 u a2 a3 a4 a5 :=
  ⟨(World.cell?_setCell_other _ _ _ _ (by simp)).trans h.c0, World.cell?_setCell_same _ _ _ h.c1, (World.cell?_setCell_other _ _ _ _ (by simp)).trans h.c2, (World.cell?_setCell_other _ _ _ _ (by simp)).trans h.c3, (World.cell?_setCell_other _ _ _ _ (by simp)).trans h.c4, (World.cell?_setCell_other _ _ _ _ (by simp)).trans h.c5,
   (frozen_setCell _ _ _ _).trans h.f0, (frozen_setCell _ _ _ _).trans h.f1, (frozen_setCell _ _ _ _).trans h.f2, (frozen_setCell _ _ _ _).trans h.f3, (frozen_setCell _ _ _ _).trans h.f4, (frozen_setCell _ _ _ _).trans h.f5⟩
theorem Six.set2 (h : Six w n a0 a1 a2 a3 a4 a5) (u : Value) : Six (w.setCell ⟨n, 2, none⟩ u) n a0 a1 u a3 a4 a5 :=
  ⟨(World.cell?_setCell_other _ _ _ _ (by simp)).trans h.c0, (World.cell?_setCell_other _ _ _ _ (by simp)).trans h.c1, World.cell?_setCell_same _ _ _ h.c2, (World.cell?_setCell_other _ _ _ _ (by simp)).trans h.c3, (World.cell?_setCell_other _ _ _ _ (by simp)).trans h.c4, (World.cell?_setCell_other _ _ _ _ (by simp)).trans h.c5,
   (frozen_setCell _ _ _ _).trans h.f0, (frozen_setCell _ _ _ _).trans h.f1, (frozen_setCell _ _ _ _).trans h.f2, (frozen_setCell _ _ _ _).trans h.f3, (frozen_setCell _ _ _ _).trans h.f4, (frozen_setCell _ _ _ _).trans h.f5⟩
theorem Six.set4 (h : Six w n a0 a1 a2 a3 a4 a5) (u : Value) : Six (w.setCell ⟨n, 4, none⟩ u) n a0 a1 a2 a3 u a5 :=
  ⟨(World.cell?_setCell_other _ _ _ _ (by simp)).trans h.c0, (World.cell?_setCell_other _ _ _ _ (by simp)).trans h.c1, (World.cell?_setCell_other _ _ _ _ (by simp)).trans h.c2, (World.cell?_setCell_other _ _ _ _ (by simp)).trans h.c3, World.cell?_setCell_same _ _ _ h.c4, (World.cell?_setCell_other _ _ _ _ (by simp)).trans h.c5,
   (frozen_setCell _ _ _ _).trans h.f0, (frozen_setCell _ _ _ _).trans h.f1, (frozen_setCell _ _ _ _).trans h.f2, (frozen_setCell _ _ _ _).trans h.f3, (frozen_setCell _ _ _ _).trans h.f4, (frozen_setCell _ _ _ _).trans h.f5⟩
theorem Six.set5 (h : Six w n a0 a1 a2 a3 a4 a5) (u : Value) : Six (w.setCell ⟨n, 5, none⟩ u) n a0 a1 a2 a3 a4 u :=
  ⟨(World.cell?_setCell_other _ _ _ _ (by simp)).trans h.c0, (World.cell?_setCell_other _ _ _ _ (by simp)).trans h.c1, (World.cell?_setCell_other _ _ _ _ (by simp)).trans h.c2, (World.cell?_setCell_other _ _ _ _ (by simp)).trans h.c3, (World.cell?_setCell_other _ _ _ _ (by simp)).trans h.c4, World.cell?_setCell_same _ _ _ h.c5,
   (frozen_setCell _ _ _ _).trans h.f0, (frozen_setCell _ _ _ _).trans h.f1, (frozen_setCell _ _ _ _).trans h.f2, (frozen_setCell _ _ _ _).trans h.f3, (frozen_setCell _ _ _ _).trans h.f4, (frozen_setCell _ _ _ _).trans h.f5⟩
end

namespace Ref
theorem countsF_eq {s : ByteArray} {st st1 stx : St} {mn mx : Int} (h1 : countF s (st.go 1) = (mn, st1)) (h2 : restF s mn st1 = (mx, stx)) :
    countsF s st = (mn, mx, if ((braceF s stx).go 1).e = 0 ∧ 0 ≤ mx ∧ mx < mn then ((braceF s stx).go 1).fail 4 st.i else (braceF s stx).go 1) := by
  unfold countsF; rw [h1]; simp only [h2]
theorem fail_ne (st : St) (e a : Int) (h : e ≠ 0) : (st.fail e a).e ≠ 0 := by unfold St.fail; split <;> simp_all
theorem fail_dead {st : St} (h : ¬ st.e = 0) (e a : Int) : st.fail e a = st := by unfold St.fail; rw [if_neg h]
theorem countsF_dead {s : ByteArray} {st st1 stx : St} {mn mx : Int} (h1 : countF s (st.go 1) = (mn, st1)) (h2 : restF s mn st1 = (mx, stx)) (h3 : ¬ stx.e = 0) : countsF s st = (mn, mx, stx.go 1) := by
  rw [countsF_eq h1 h2]
  have hb : braceF s stx = stx := by unfold braceF; rw [if_neg (by intro h; exact h3 h.1)]
  rw [hb, if_neg (by intro h; exact h3 h.1)]
theorem countsF_bad {s : ByteArray} {st st1 stx : St} {mn mx : Int} (h1 : countF s (st.go 1) = (mn, st1)) (h2 : restF s mn st1 = (mx, stx)) (h3 : stx.e = 0) (h4 : ¬ byteAt s stx.i = 125) : countsF s st = (mn, mx, (stx.fail 3 stx.i).go 1) := by
  rw [countsF_eq h1 h2]
  have hb : braceF s stx = stx.fail 3 stx.i := by unfold braceF; rw [if_pos ⟨h3, h4⟩]
  rw [hb, if_neg (by intro h; exact fail_ne stx 3 stx.i (by decide) h.1)]
theorem countsF_turned {s : ByteArray} {st st1 stx : St} {mn mx : Int} (h1 : countF s (st.go 1) = (mn, st1)) (h2 : restF s mn st1 = (mx, stx)) (h3 : stx.e = 0) (h4 : byteAt s stx.i = 125) (h5 : 0 ≤ mx ∧ mx < mn) : countsF s st = (mn, mx, (stx.go 1).fail 4 st.i) := by
  rw [countsF_eq h1 h2]
  have hb : braceF s stx = stx := by unfold braceF; rw [if_neg (by intro h; exact h.2 h4)]
  rw [hb, if_pos ⟨h3, h5⟩]
theorem countsF_fine {s : ByteArray} {st st1 stx : St} {mn mx : Int} (h1 : countF s (st.go 1) = (mn, st1)) (h2 : restF s mn st1 = (mx, stx)) (_h3 : stx.e = 0) (h4 : byteAt s stx.i = 125) (h5 : ¬ (0 ≤ mx ∧ mx < mn)) : countsF s st = (mn, mx, stx.go 1) := by
  rw [countsF_eq h1 h2]
  have hb : braceF s stx = stx := by unfold braceF; rw [if_neg (by intro h; exact h.2 h4)]
  rw [hb, if_neg (by intro h; exact h5 h.2)]
end Ref

theorem now_abs (b : Nat) (s : ByteArray) (st : St) (w : World) (h : Lex w b s st) (hs : s.size ≤ 400) :
    Calls Tryz.prog 55 #[.pointer (some ⟨b, 0, none⟩)] w fun x w' => x = .returned (.int .i64 (byteAt s st.i)) ∧ Only (fun _ => False) w w' :=
  (now_lex b s st w h hs).mono fun _ _ ⟨h1, _, h2⟩ => ⟨h1, by rw [h2]; exact (Only.refl _ _).drewN _⟩

set_option maxHeartbeats 1600000 in
theorem counts_any (b : Nat) (s : ByteArray) (st : St) (w : World) (h : Lex w b s st) (hs : s.size ≤ 400) (hi : st.i < s.size) :
    Calls Tryz.prog 79 #[.pointer (some ⟨b, 0, none⟩)] w fun x w' =>
      x = .returned (.agg #[.int .i64 6, .bool false, .slice none 0 0, .int .i64 0, .int .i64 (Ref.countsF s st).1, .int .i64 (Ref.countsF s st).2.1]) ∧ Lex w' b s (Ref.countsF s st).2.2 ∧ Only (Mine b) w w' := by
  have hL1 := hide h
  have hlt := h.lt
  obtain ⟨c0, c1, c2, c3, f1, f2, f3⟩ := h
  have hL2 := hide ((((unhide hL1).setI ((st.i : Int) + 1) 1 (by omega)).alloc (.cells #[.int .i64 0, .bool false, .slice none 0 0, .int .i64 0, .int .i64 0, .int .i64 0] 151)).alloc (.cells #[.int .i64 6, .bool false, .slice none 0 0, .int .i64 0, .int .i64 0, .int .i64 0] 151))
  have hR2 := hide ((Six.new (n := w.heap.size) (a0 := .int .i64 0) (a1 := .bool false) (a2 := .slice none 0 0) (a3 := .int .i64 0) (a4 := .int .i64 0) (a5 := .int .i64 0) (w.setCell ⟨b, 1, none⟩ (.int .i64 ((st.i : Int) + 1))) 151 (by simp)).keep ((Only.refl (fun _ => False) _).alloc (.cells #[.int .i64 6, .bool false, .slice none 0 0, .int .i64 0, .int .i64 0, .int .i64 0] 151)) (fun f => f))
  have hT2 := hide (Six.new (n := w.heap.size + 1) (a0 := .int .i64 6) (a1 := .bool false) (a2 := .slice none 0 0) (a3 := .int .i64 0) (a4 := .int .i64 0) (a5 := .int .i64 0) ((w.setCell ⟨b, 1, none⟩ (.int .i64 ((st.i : Int) + 1))).alloc (.cells #[.int .i64 0, .bool false, .slice none 0 0, .int .i64 0, .int .i64 0, .int .i64 0] 151)) 151 (by simp))
  have hO2 := hide ((((Only.refl (Mine b) w).mine 1 (.int .i64 ((st.i : Int) + 1))).alloc (.cells #[.int .i64 0, .bool false, .slice none 0 0, .int .i64 0, .int .i64 0, .int .i64 0] 151)).alloc (.cells #[.int .i64 6, .bool false, .slice none 0 0, .int .i64 0, .int .i64 0, .int .i64 0] 151))
  go_enter Tryz.func79, Tryz.ntmps79
  go_wp2_with fail
  refine (count_any b s (st.go 1) _ (unhide hL2) hs (by simp only [St.go]; omega)).mono ?_
  rintro e w1 ⟨rfl, hL3, hO3⟩
  have hR3 := (unhide hR2).keep hO3 (by unfold Mine; omega)
  have hT3 := (unhide hT2).keep hO3 (by unfold Mine; omega)
  have HO3 := hide ((unhide hO2).trans hO3)
  have hcb := Ref.countF_bd s (st.go 1)
  have HC := hide (Eq.refl (Ref.countF s (st.go 1)))
  generalize hr : Ref.countF s (st.go 1) = r at *
  obtain ⟨mn, st1⟩ := r
  simp only [] at *
  obtain ⟨m0, m1, m2, m3⟩ := hcb
  have m4 : st1.i ≤ s.size := m3 (by simp only [St.go]; omega)
  have H1 := hide hr
  clear hr HC m3 c0 c1 c2 c3 f1 f2 f3
  -- the two stores
  have hL4 := hide ((hL3.keep (((Only.refl (Mine (w.heap.size + 1)) w1).mine 4 (.int .i64 mn)).mine 5 (.int .i64 mn)) (by unfold Mine; omega)))
  have hT4 := hide ((hT3.set4 (.int .i64 mn)).set5 (.int .i64 mn))
  have hR4 := hide ((hR3.other ⟨w.heap.size + 1, 4, none⟩ (by simp) (.int .i64 mn)).other ⟨w.heap.size + 1, 5, none⟩ (by simp) (.int .i64 mn))
  have hO4 := hide ((unhide HO3).young (((Only.refl (Mine (w.heap.size + 1)) w1).mine 4 (.int .i64 mn)).mine 5 (.int .i64 mn)) (by omega))
  obtain ⟨t0, t1, t2, t3, t4, t5, v0, v1, v2, v3, v4, v5⟩ := hT3
  obtain ⟨r0, r1, r2, r3, r4, r5, u0, u1, u2, u3, u4, u5⟩ := hR3
  obtain ⟨l0, l1, l2, l3, k1, k2, k3⟩ := hL3
  clear hO3
  by_cases e1 : st1.e = 0
  · have eb : (st1.e == 0) = true := by simp [e1]
    have E1 := hide e1
    clear e1
    by_cases b1 : byteAt s st1.i = 44
    · have bb : (byteAt s st1.i == 44) = true := by simp [b1]
      have hlt1 : st1.i < s.size := by rw [← byteAt_nonneg]; omega
      go_wp2_with fail
      refine (now_lex b s st1 _ (unhide hL4) hs).mono ?_
      rintro e w2 ⟨rfl, nq, rfl⟩
      go_wp2_with fail
      have hL5 := hide ((((unhide hL4).drewN nq).setI ((st1.i : Int) + 1) 1 (by omega)).keep ((Only.refl (Mine (w.heap.size + 1)) _).mine 5 (.int .i64 (-1))) (by unfold Mine; omega))
      have hT5 := hide (((((unhide hT4).drewN nq).other ⟨b, 1, none⟩ (by simp; omega) (.int .i64 ((st1.i : Int) + 1)))).set5 (.int .i64 (-1)))
      have hR5 := hide (((((unhide hR4).drewN nq).other ⟨b, 1, none⟩ (by simp; omega) (.int .i64 ((st1.i : Int) + 1)))).other ⟨w.heap.size + 1, 5, none⟩ (by simp) (.int .i64 (-1)))
      have hO5 := hide ((((unhide hO4).drewN nq).mine 1 (.int .i64 ((st1.i : Int) + 1))).young ((Only.refl (Mine (w.heap.size + 1)) _).mine 5 (.int .i64 (-1))) (by omega))
      refine (now_abs b s (st1.go 1) _ (unhide hL5) hs).mono ?_
      rintro e w2 ⟨rfl, hON⟩
      simp only [St.go]
      have hLN := (unhide hL5).keep hON (fun f => f)
      have hTN := (unhide hT5).keep hON (fun f => f)
      have hRN := (unhide hR5).keep hON (fun f => f)
      have hOO := hide ((unhide hO5).trans (hON.mono (fun _ _ f => f.elim)))
      have hLL := hide hLN
      have hTT := hide hTN
      have hRR := hide hRN
      clear hON l0 l1 l2 l3 k1 k2 k3 t0 t1 t2 t3 t4 t5 v0 v1 v2 v3 v4 v5 r0 r1 r2 r3 r4 r5 u0 u1 u2 u3 u4 u5 hL5 hT5 hR5 hO5
      obtain ⟨l0, l1, l2, l3, k1, k2, k3⟩ := hLN
      obtain ⟨t0, t1, t2, t3, t4, t5, v0, v1, v2, v3, v4, v5⟩ := hTN
      obtain ⟨r0, r1, r2, r3, r4, r5, u0, u1, u2, u3, u4, u5⟩ := hRN
      have hgi : (st1.go 1).i ≤ 1000 := by simp only [St.go]; omega
      by_cases b2 : byteAt s (st1.i + 1) = 125
      · have bb2 : (byteAt s (st1.i + 1) == 125) = true := by simp [b2]
        have bb2' : (byteAt s (st1.i + 1) != 125) = false := by simp [b2]
        have HH : Hid (Ref.countsF s st = (mn, -1, (st1.go 1).go 1)) := Ref.countsF_fine (unhide H1) (by unfold Ref.restF; rw [if_pos ⟨unhide E1, b1⟩, if_pos b2]) (unhide E1) b2 (by omega)
        clear b1 b2
        go_wp2_with fail
        refine (now_lex b s (st1.go 1) _ (unhide hLL) hs).mono ?_
        rintro e w2 ⟨rfl, nq2, rfl⟩
        simp only [St.go]
        go_wp2_with fail
        refine bodyPost_ret (v := .agg #[.int .i64 6, .bool false, .slice none 0 0, .int .i64 0, .int .i64 mn, .int .i64 (-1)]) (by simp [results, Tryz.results79, go_sem, r0, r1, r2, r3, r4, r5]) rfl ?_
        rw [unhide HH]
        exact ⟨rfl, (((unhide hLL).drewN _).setI _ 1 (by simp only [St.go]; omega)).keep (Only.six w.heap.size _ _ _ _ _ _ _) (by unfold Mine; omega), (((unhide hOO).drewN _).mine 1 _).young (Only.six w.heap.size _ _ _ _ _ _ _) (Nat.le_refl _)⟩
      · have bb2' : (byteAt s (st1.i + 1) != 125) = true := by simp [b2]
        go_wp2_with fail
        refine (count_any b s (st1.go 1) _ (unhide hLL) hs (by simp only [St.go]; omega)).mono ?_
        rintro e w4 ⟨rfl, hL6, hO6⟩
        have hR6 := ((unhide hRR).keep hO6 (by unfold Mine; omega))
        have hT6 := ((unhide hTT).keep hO6 (by unfold Mine; omega))
        have HO6 := hide ((unhide hOO).trans hO6)
        have hcb := Ref.countF_bd s (st1.go 1)
        generalize hr : Ref.countF s (st1.go 1) = r at *
        obtain ⟨mx, st2⟩ := r
        simp only [] at *
        obtain ⟨n0, n1, n2, n3⟩ := hcb
        have n4 : st2.i ≤ s.size := n3 (by simp only [St.go]; omega)
        have H2 : Hid (Ref.restF s mn st1 = (mx, st2)) := by show _ = _; unfold Ref.restF; rw [if_pos ⟨unhide E1, b1⟩, if_neg b2, hr]
        clear hr n3 b1 b2 hO6
        have hL7 := hide (hL6.keep ((Only.refl (Mine (w.heap.size + 1)) w4).mine 5 (.int .i64 mx)) (by unfold Mine; omega))
        have hT7 := hide (hT6.set5 (.int .i64 mx))
        have hR7 := hide (hR6.other ⟨w.heap.size + 1, 5, none⟩ (by simp) (.int .i64 mx))
        have hO7 := hide ((unhide HO6).young ((Only.refl (Mine (w.heap.size + 1)) w4).mine 5 (.int .i64 mx)) (by omega))
        obtain ⟨a0, a1, a2, a3, a4, a5, x0, x1, x2, x3, x4, x5⟩ := hT6
        obtain ⟨g0, g1, g2, g3, g4, g5, y0, y1, y2, y3, y4, y5⟩ := hR6
        obtain ⟨z0, z1, z2, z3, j1, j2, j3⟩ := hL6
        clear l0 l1 l2 l3 k1 k2 k3 t0 t1 t2 t3 t4 t5 v0 v1 v2 v3 v4 v5 r0 r1 r2 r3 r4 r5 u0 u1 u2 u3 u4 u5
        by_cases e2 : st2.e = 0
        · have eb2 : (st2.e == 0) = true := by simp [e2]
          by_cases b3 : byteAt s st2.i = 125
          · have bb3 : (byteAt s st2.i != 125) = false := by simp [b3]
            by_cases hlt3 : mx < mn
            · have HH : Hid (Ref.countsF s st = (mn, mx, (st2.go 1).fail 4 st.i)) := Ref.countsF_turned (unhide H1) (unhide H2) e2 b3 ⟨n0, hlt3⟩
              clear e2 b3
              go_wp2_with fail
              refine (now_lex b s st2 _ (unhide hL7) hs).mono ?_
              rintro e w2 ⟨rfl, nq2, rfl⟩
              go_wp2_with fail
              have hL8 := ((unhide hL7).drewN nq2).setI ((st2.i : Int) + 1) 1 (by omega)
              refine (fail_lex b s (st2.go 1) 4 _ _ hL8).mono ?_
              rintro e w5 ⟨rfl, hL9, hO9⟩
              have hT9 := ((((unhide hT7).drewN nq2).other ⟨b, 1, none⟩ (by simp; omega) (.int .i64 ((st2.i : Int) + 1)))).keep hO9 (by unfold Mine; omega)
              have hR9 := ((((unhide hR7).drewN nq2).other ⟨b, 1, none⟩ (by simp; omega) (.int .i64 ((st2.i : Int) + 1)))).keep hO9 (by unfold Mine; omega)
              obtain ⟨p0, p1, p2, p3, p4, p5, o0, o1, o2, o3, o4, o5⟩ := hT9
              obtain ⟨d0, d1, d2, d3, d4, d5, i0, i1, i2, i3, i4, i5⟩ := hR9
              have HL9 := hide hL9
              have HO9 := hide ((((unhide hO7).drewN nq2).mine 1 (.int .i64 ((st2.i : Int) + 1))).trans hO9)
              clear hL9 hO9 hL8
              go_wp2_with fail
              refine bodyPost_ret (v := .agg #[.int .i64 6, .bool false, .slice none 0 0, .int .i64 0, .int .i64 mn, .int .i64 (mx)]) (by simp [results, Tryz.results79, go_sem, d0, d1, d2, d3, d4, d5]) rfl ?_
              rw [unhide HH]
              exact ⟨rfl, (unhide HL9).keep (Only.six w.heap.size _ _ _ _ _ _ _) (by unfold Mine; omega), (unhide HO9).young (Only.six w.heap.size _ _ _ _ _ _ _) (Nat.le_refl _)⟩
            · have HH : Hid (Ref.countsF s st = (mn, mx, (st2.go 1))) := Ref.countsF_fine (unhide H1) (unhide H2) e2 b3 (by omega)
              clear e2 b3
              go_wp2_with fail
              refine (now_lex b s st2 _ (unhide hL7) hs).mono ?_
              rintro e w2 ⟨rfl, nq2, rfl⟩
              go_wp2_with fail
              refine bodyPost_ret (v := .agg #[.int .i64 6, .bool false, .slice none 0 0, .int .i64 0, .int .i64 mn, .int .i64 (mx)]) (by simp [results, Tryz.results79, go_sem, g0, g1, g2, g3, g4, g5]) rfl ?_
              rw [unhide HH]
              exact ⟨rfl, (((unhide hL7).drewN nq2).setI _ 1 (by omega)).keep (Only.six w.heap.size _ _ _ _ _ _ _) (by unfold Mine; omega), (((unhide hO7).drewN nq2).mine 1 _).young (Only.six w.heap.size _ _ _ _ _ _ _) (Nat.le_refl _)⟩
          · have bb3 : (byteAt s st2.i != 125) = true := by simp [b3]
            have HH : Hid (Ref.countsF s st = (mn, mx, (st2.fail 3 st2.i).go 1)) := Ref.countsF_bad (unhide H1) (unhide H2) e2 b3
            have en : ((st2.fail 3 st2.i).e == 0) = false := by simp [Ref.fail_ne]
            clear e2 b3
            go_wp2_with fail
            refine (now_lex b s st2 _ (unhide hL7) hs).mono ?_
            rintro e w2 ⟨rfl, nq2, rfl⟩
            go_wp2_with fail
            refine (fail_lex b s st2 3 _ _ ((unhide hL7).drewN nq2)).mono ?_
            rintro e w5 ⟨rfl, hL9, hO9⟩
            have hT9 := ((unhide hT7).drewN nq2).keep hO9 (by unfold Mine; omega)
            have hR9 := ((unhide hR7).drewN nq2).keep hO9 (by unfold Mine; omega)
            obtain ⟨p0, p1, p2, p3, p4, p5, o0, o1, o2, o3, o4, o5⟩ := hT9
            obtain ⟨d0, d1, d2, d3, d4, d5, i0, i1, i2, i3, i4, i5⟩ := hR9
            have HL9 := hide hL9
            have HO9 := hide (((unhide hO7).drewN nq2).trans hO9)
            have hfi : (st2.fail 3 st2.i).i ≤ 400 := by rw [Ref.fail_i]; omega
            obtain ⟨zz0, zz1, zz2, zz3, jj1, jj2, jj3⟩ := hL9
            clear hO9
            go_wp2_with fail
            refine bodyPost_ret (v := .agg #[.int .i64 6, .bool false, .slice none 0 0, .int .i64 0, .int .i64 mn, .int .i64 (mx)]) (by simp [results, Tryz.results79, go_sem, d0, d1, d2, d3, d4, d5]) rfl ?_
            rw [unhide HH]
            exact ⟨rfl, ((unhide HL9).setI _ 1 (by omega)).keep (Only.six w.heap.size _ _ _ _ _ _ _) (by unfold Mine; omega), ((unhide HO9).mine 1 _).young (Only.six w.heap.size _ _ _ _ _ _ _) (Nat.le_refl _)⟩
        · have eb2 : (st2.e == 0) = false := by simp [e2]
          have HH : Hid (Ref.countsF s st = (mn, mx, st2.go 1)) := Ref.countsF_dead (unhide H1) (unhide H2) e2
          clear e2
          go_wp2_with fail
          refine bodyPost_ret (v := .agg #[.int .i64 6, .bool false, .slice none 0 0, .int .i64 0, .int .i64 mn, .int .i64 (mx)]) (by simp [results, Tryz.results79, go_sem, g0, g1, g2, g3, g4, g5]) rfl ?_
          rw [unhide HH]
          exact ⟨rfl, ((unhide hL7).setI _ 1 (by omega)).keep (Only.six w.heap.size _ _ _ _ _ _ _) (by unfold Mine; omega), ((unhide hO7).mine 1 _).young (Only.six w.heap.size _ _ _ _ _ _ _) (Nat.le_refl _)⟩
    · have bb : (byteAt s st1.i == 44) = false := by simp [b1]
      have H2 : Hid (Ref.restF s mn st1 = (mn, st1)) := by show _ = _; unfold Ref.restF; rw [if_neg (by intro hh; exact b1 hh.2)]
      clear b1
      go_wp2_with fail
      refine (now_lex b s st1 _ (unhide hL4) hs).mono ?_
      rintro e w2 ⟨rfl, nq, rfl⟩
      by_cases b3 : byteAt s st1.i = 125
      · have bb3 : (byteAt s st1.i != 125) = false := by simp [b3]
        have HH : Hid (Ref.countsF s st = (mn, mn, (st1.go 1))) := Ref.countsF_fine (unhide H1) (unhide H2) (unhide E1) b3 (by omega)
        clear b3
        go_wp2_with fail
        refine (now_lex b s st1 _ ((unhide hL4).drewN nq) hs).mono ?_
        rintro e w2 ⟨rfl, nq2, rfl⟩
        go_wp2_with fail
        refine bodyPost_ret (v := .agg #[.int .i64 6, .bool false, .slice none 0 0, .int .i64 0, .int .i64 mn, .int .i64 (mn)]) (by simp [results, Tryz.results79, go_sem, r0, r1, r2, r3, r4, r5]) rfl ?_
        rw [unhide HH]
        exact ⟨rfl, (((unhide hL4).drewN _).setI _ 1 (by omega)).keep (Only.six w.heap.size _ _ _ _ _ _ _) (by unfold Mine; omega), (((unhide hO4).drewN _).mine 1 _).young (Only.six w.heap.size _ _ _ _ _ _ _) (Nat.le_refl _)⟩
      · have bb3 : (byteAt s st1.i != 125) = true := by simp [b3]
        have HH : Hid (Ref.countsF s st = (mn, mn, (st1.fail 3 st1.i).go 1)) := Ref.countsF_bad (unhide H1) (unhide H2) (unhide E1) b3
        have en : ((st1.fail 3 st1.i).e == 0) = false := by simp [Ref.fail_ne]
        clear b3
        go_wp2_with fail
        refine (now_lex b s st1 _ ((unhide hL4).drewN nq) hs).mono ?_
        rintro e w2 ⟨rfl, nq2, rfl⟩
        go_wp2_with fail
        refine (fail_lex b s st1 3 _ _ ((unhide hL4).drewN _)).mono ?_
        rintro e w5 ⟨rfl, hL9, hO9⟩
        have hT9 := ((unhide hT4).drewN _).keep hO9 (by unfold Mine; omega)
        have hR9 := ((unhide hR4).drewN _).keep hO9 (by unfold Mine; omega)
        obtain ⟨p0, p1, p2, p3, p4, p5, o0, o1, o2, o3, o4, o5⟩ := hT9
        obtain ⟨d0, d1, d2, d3, d4, d5, i0, i1, i2, i3, i4, i5⟩ := hR9
        have HL9 := hide hL9
        have HO9 := hide (((unhide hO4).drewN _).trans hO9)
        have hfi : (st1.fail 3 st1.i).i ≤ 400 := by rw [Ref.fail_i]; omega
        obtain ⟨zz0, zz1, zz2, zz3, jj1, jj2, jj3⟩ := hL9
        clear hO9
        go_wp2_with fail
        refine bodyPost_ret (v := .agg #[.int .i64 6, .bool false, .slice none 0 0, .int .i64 0, .int .i64 mn, .int .i64 (mn)]) (by simp [results, Tryz.results79, go_sem, d0, d1, d2, d3, d4, d5]) rfl ?_
        rw [unhide HH]
        exact ⟨rfl, ((unhide HL9).setI _ 1 (by omega)).keep (Only.six w.heap.size _ _ _ _ _ _ _) (by unfold Mine; omega), ((unhide HO9).mine 1 _).young (Only.six w.heap.size _ _ _ _ _ _ _) (Nat.le_refl _)⟩
  · have eb : (st1.e == 0) = false := by simp [e1]
    have HH : Hid (Ref.countsF s st = (mn, mn, st1.go 1)) := Ref.countsF_dead (unhide H1) (by unfold Ref.restF; rw [if_neg (by intro hh; exact e1 hh.1)]) e1
    clear e1
    go_wp2_with fail
    refine bodyPost_ret (v := .agg #[.int .i64 6, .bool false, .slice none 0 0, .int .i64 0, .int .i64 mn, .int .i64 (mn)]) (by simp [results, Tryz.results79, go_sem, r0, r1, r2, r3, r4, r5]) rfl ?_
    rw [unhide HH]
    exact ⟨rfl, ((unhide hL4).setI _ 1 (by omega)).keep (Only.six w.heap.size _ _ _ _ _ _ _) (by unfold Mine; omega), ((unhide hO4).mine 1 _).young (Only.six w.heap.size _ _ _ _ _ _ _) (Nat.le_refl _)⟩

end Go.Proofs.YtdhmllobgijggaaGreatDoor
namespace Go.Proofs.YtdhmllobgijggaaGreatDoor
open Go.RowKit

namespace Ref
theorem restF_i (s : ByteArray) (mn : Int) (st : St) (h : st.i ≤ s.size) : (restF s mn st).2.i ≤ s.size + 1 := by
  unfold restF
  split
  · rename_i hh
    have hlt : st.i < s.size := by rw [← byteAt_nonneg]; omega
    split
    · simp only [St.go]; omega
    · have := (countF_bd s (st.go 1)).2.2.2 (by simp only [St.go]; omega); omega
  · simp only []; omega
theorem countsF_i (s : ByteArray) (st : St) (h : st.i < s.size) : (countsF s st).2.2.i ≤ s.size + 2 := by
  have h1 := (countF_bd s (st.go 1)).2.2.2 (by simp only [St.go]; omega)
  have h2 := restF_i s (countF s (st.go 1)).1 _ h1
  have h3 : ∀ st', (braceF s st').i = st'.i := by intro st'; unfold braceF; split; exact fail_i _ _ _; rfl
  unfold countsF
  dsimp only
  have h4 : ∀ st' : St, ((braceF s st').go 1).i = st'.i + 1 := by intro st'; show (braceF s st').i + 1 = _; rw [h3]
  split
  · rw [fail_i, h4]; omega
  · rw [h4]; omega
end Ref

set_option maxHeartbeats 1600000 in
theorem quantifier_any (b : Nat) (s : ByteArray) (st : St) (w : World) (h : Lex w b s st) (hs : s.size ≤ 400) (hi : st.i < s.size) (he : st.e = 0) :
    Calls Tryz.prog 56 #[.pointer (some ⟨b, 0, none⟩)] w fun x w' =>
      x = .returned (.agg #[.int .i64 6, .bool false, .slice none 0 0, .int .i64 0, .int .i64 (Ref.quantF s st).1, .int .i64 (Ref.quantF s st).2.1]) ∧ Lex w' b s (Ref.quantF s st).2.2 ∧ Only (Mine b) w w' := by
  have hL1 := hide h
  have hlt := h.lt
  have HE := hide he
  have eb : (st.e == 0) = true := by simp [he]
  clear he
  have hL2 := hide (((unhide hL1).alloc (.cells #[.int .i64 0, .bool false, .slice none 0 0, .int .i64 0, .int .i64 0, .int .i64 0] 151)).alloc (.cells #[.int .i64 6, .bool false, .slice none 0 0, .int .i64 0, .int .i64 0, .int .i64 (-1)] 151))
  have hR2 := hide ((Six.new (n := w.heap.size) (a0 := .int .i64 0) (a1 := .bool false) (a2 := .slice none 0 0) (a3 := .int .i64 0) (a4 := .int .i64 0) (a5 := .int .i64 0) w 151 rfl).keep ((Only.refl (fun _ => False) _).alloc (.cells #[.int .i64 6, .bool false, .slice none 0 0, .int .i64 0, .int .i64 0, .int .i64 (-1)] 151)) (fun f => f))
  have hT2 := hide (Six.new (n := w.heap.size + 1) (a0 := .int .i64 6) (a1 := .bool false) (a2 := .slice none 0 0) (a3 := .int .i64 0) (a4 := .int .i64 0) (a5 := .int .i64 (-1)) (w.alloc (.cells #[.int .i64 0, .bool false, .slice none 0 0, .int .i64 0, .int .i64 0, .int .i64 0] 151)) 151 (by simp))
  have hO2 := hide (((Only.refl (Mine b) w).alloc (.cells #[.int .i64 0, .bool false, .slice none 0 0, .int .i64 0, .int .i64 0, .int .i64 0] 151)).alloc (.cells #[.int .i64 6, .bool false, .slice none 0 0, .int .i64 0, .int .i64 0, .int .i64 (-1)] 151))
  clear h
  go_enter Tryz.func56, Tryz.ntmps56
  go_wp2_with fail
  refine (now_abs b s st _ (unhide hL2) hs).mono ?_
  rintro e w1 ⟨rfl, hON⟩
  have hLN := (unhide hL2).keep hON (fun f => f)
  have hTN := (unhide hT2).keep hON (fun f => f)
  have hRN := (unhide hR2).keep hON (fun f => f)
  have hOO := hide ((unhide hO2).trans (hON.mono (fun _ _ f => f.elim)))
  have hLL := hide hLN
  have hTT := hide hTN
  have hRR := hide hRN
  clear hON hL2 hT2 hR2 hO2
  obtain ⟨l0, l1, l2, l3, k1, k2, k3⟩ := hLN
  obtain ⟨t0, t1, t2, t3, t4, t5, v0, v1, v2, v3, v4, v5⟩ := hTN
  obtain ⟨r0, r1, r2, r3, r4, r5, u0, u1, u2, u3, u4, u5⟩ := hRN
  by_cases x1 : byteAt s st.i = 43
  · have y1 : (byteAt s st.i == 43) = true := by simp [x1]
    have eb' : ((st.go 1).e == 0) = true := by simp [St.go, unhide HE]
    go_wp2_with fail
    have hL5 := hide (((unhide hLL).keep ((Only.refl (Mine (w.heap.size + 1)) w1).mine 4 (.int .i64 1)) (by unfold Mine; omega)).setI ((st.i : Int) + 1) 1 (by omega))
    have hO5 := hide (((unhide hOO).young ((Only.refl (Mine (w.heap.size + 1)) w1).mine 4 (.int .i64 1)) (by omega)).mine 1 (.int .i64 ((st.i : Int) + 1)))
    refine (now_lex b s (st.go 1) _ (unhide hL5) hs).mono ?_
    rintro e w2 ⟨rfl, nq, rfl⟩
    simp only [St.go]
    by_cases b2 : byteAt s (st.i + 1) = 63
    · have bb2 : (byteAt s (st.i + 1) == 63) = true := by simp [b2]
      have HH : Hid (Ref.quantF s st = (1, -1, (st.go 1).go 1)) := by show _ = _; unfold Ref.quantF Ref.lazyF; rw [if_pos x1, if_pos ⟨by simp [St.go, unhide HE], b2⟩]
      clear x1 b2
      go_wp2_with fail
      refine bodyPost_ret (v := .agg #[.int .i64 6, .bool false, .slice none 0 0, .int .i64 0, .int .i64 (1), .int .i64 (-1)]) (by simp [results, Tryz.results56, go_sem, r0, r1, r2, r3, r4, r5]) rfl ?_
      rw [unhide HH]
      exact ⟨rfl, (((unhide hL5).drewN nq).setI _ 1 (by simp only [St.go]; omega)).keep (Only.six w.heap.size _ _ _ _ _ _ _) (by unfold Mine; omega), (((unhide hO5).drewN nq).mine 1 _).young (Only.six w.heap.size _ _ _ _ _ _ _) (Nat.le_refl _)⟩
    · have bb2 : (byteAt s (st.i + 1) == 63) = false := by simp [b2]
      have HH : Hid (Ref.quantF s st = (1, -1, st.go 1)) := by show _ = _; unfold Ref.quantF Ref.lazyF; rw [if_pos x1, if_neg (by intro hh; exact b2 hh.2)]
      clear x1 b2
      go_wp2_with fail
      refine bodyPost_ret (v := .agg #[.int .i64 6, .bool false, .slice none 0 0, .int .i64 0, .int .i64 (1), .int .i64 (-1)]) (by simp [results, Tryz.results56, go_sem, r0, r1, r2, r3, r4, r5]) rfl ?_
      rw [unhide HH]
      exact ⟨rfl, ((unhide hL5).drewN nq).keep (Only.six w.heap.size _ _ _ _ _ _ _) (by unfold Mine; omega), ((unhide hO5).drewN nq).young (Only.six w.heap.size _ _ _ _ _ _ _) (Nat.le_refl _)⟩
  · have y1 : (byteAt s st.i == 43) = false := by simp [x1]
    by_cases x2 : byteAt s st.i = 63
    · have y2 : (byteAt s st.i == 63) = true := by simp [x2]
      have eb' : ((st.go 1).e == 0) = true := by simp [St.go, unhide HE]
      go_wp2_with fail
      have hL5 := hide (((unhide hLL).keep ((Only.refl (Mine (w.heap.size + 1)) w1).mine 5 (.int .i64 1)) (by unfold Mine; omega)).setI ((st.i : Int) + 1) 1 (by omega))
      have hO5 := hide (((unhide hOO).young ((Only.refl (Mine (w.heap.size + 1)) w1).mine 5 (.int .i64 1)) (by omega)).mine 1 (.int .i64 ((st.i : Int) + 1)))
      refine (now_lex b s (st.go 1) _ (unhide hL5) hs).mono ?_
      rintro e w2 ⟨rfl, nq, rfl⟩
      simp only [St.go]
      by_cases b2 : byteAt s (st.i + 1) = 63
      · have bb2 : (byteAt s (st.i + 1) == 63) = true := by simp [b2]
        have HH : Hid (Ref.quantF s st = (0, 1, (st.go 1).go 1)) := by show _ = _; unfold Ref.quantF Ref.lazyF; rw [if_neg x1, if_pos x2, if_pos ⟨by simp [St.go, unhide HE], b2⟩]
        clear x1 x2 b2
        go_wp2_with fail
        refine bodyPost_ret (v := .agg #[.int .i64 6, .bool false, .slice none 0 0, .int .i64 0, .int .i64 (0), .int .i64 (1)]) (by simp [results, Tryz.results56, go_sem, r0, r1, r2, r3, r4, r5]) rfl ?_
        rw [unhide HH]
        exact ⟨rfl, (((unhide hL5).drewN nq).setI _ 1 (by simp only [St.go]; omega)).keep (Only.six w.heap.size _ _ _ _ _ _ _) (by unfold Mine; omega), (((unhide hO5).drewN nq).mine 1 _).young (Only.six w.heap.size _ _ _ _ _ _ _) (Nat.le_refl _)⟩
      · have bb2 : (byteAt s (st.i + 1) == 63) = false := by simp [b2]
        have HH : Hid (Ref.quantF s st = (0, 1, st.go 1)) := by show _ = _; unfold Ref.quantF Ref.lazyF; rw [if_neg x1, if_pos x2, if_neg (by intro hh; exact b2 hh.2)]
        clear x1 x2 b2
        go_wp2_with fail
        refine bodyPost_ret (v := .agg #[.int .i64 6, .bool false, .slice none 0 0, .int .i64 0, .int .i64 (0), .int .i64 (1)]) (by simp [results, Tryz.results56, go_sem, r0, r1, r2, r3, r4, r5]) rfl ?_
        rw [unhide HH]
        exact ⟨rfl, ((unhide hL5).drewN nq).keep (Only.six w.heap.size _ _ _ _ _ _ _) (by unfold Mine; omega), ((unhide hO5).drewN nq).young (Only.six w.heap.size _ _ _ _ _ _ _) (Nat.le_refl _)⟩
    · have y2 : (byteAt s st.i == 63) = false := by simp [x2]
      by_cases x3 : byteAt s st.i = 42
      · have y3 : (byteAt s st.i == 42) = true := by simp [x3]
        have eb' : ((st.go 1).e == 0) = true := by simp [St.go, unhide HE]
        go_wp2_with fail
        have hL5 := hide (((unhide hLL)).setI ((st.i : Int) + 1) 1 (by omega))
        have hO5 := hide (((unhide hOO)).mine 1 (.int .i64 ((st.i : Int) + 1)))
        refine (now_lex b s (st.go 1) _ (unhide hL5) hs).mono ?_
        rintro e w2 ⟨rfl, nq, rfl⟩
        simp only [St.go]
        by_cases b2 : byteAt s (st.i + 1) = 63
        · have bb2 : (byteAt s (st.i + 1) == 63) = true := by simp [b2]
          have HH : Hid (Ref.quantF s st = (0, -1, (st.go 1).go 1)) := by show _ = _; unfold Ref.quantF Ref.lazyF; rw [if_neg x1, if_neg x2, if_pos x3, if_pos ⟨by simp [St.go, unhide HE], b2⟩]
          clear x1 x2 x3 b2
          go_wp2_with fail
          refine bodyPost_ret (v := .agg #[.int .i64 6, .bool false, .slice none 0 0, .int .i64 0, .int .i64 (0), .int .i64 (-1)]) (by simp [results, Tryz.results56, go_sem, r0, r1, r2, r3, r4, r5]) rfl ?_
          rw [unhide HH]
          exact ⟨rfl, (((unhide hL5).drewN nq).setI _ 1 (by simp only [St.go]; omega)).keep (Only.six w.heap.size _ _ _ _ _ _ _) (by unfold Mine; omega), (((unhide hO5).drewN nq).mine 1 _).young (Only.six w.heap.size _ _ _ _ _ _ _) (Nat.le_refl _)⟩
        · have bb2 : (byteAt s (st.i + 1) == 63) = false := by simp [b2]
          have HH : Hid (Ref.quantF s st = (0, -1, st.go 1)) := by show _ = _; unfold Ref.quantF Ref.lazyF; rw [if_neg x1, if_neg x2, if_pos x3, if_neg (by intro hh; exact b2 hh.2)]
          clear x1 x2 x3 b2
          go_wp2_with fail
          refine bodyPost_ret (v := .agg #[.int .i64 6, .bool false, .slice none 0 0, .int .i64 0, .int .i64 (0), .int .i64 (-1)]) (by simp [results, Tryz.results56, go_sem, r0, r1, r2, r3, r4, r5]) rfl ?_
          rw [unhide HH]
          exact ⟨rfl, ((unhide hL5).drewN nq).keep (Only.six w.heap.size _ _ _ _ _ _ _) (by unfold Mine; omega), ((unhide hO5).drewN nq).young (Only.six w.heap.size _ _ _ _ _ _ _) (Nat.le_refl _)⟩
      · have y3 : (byteAt s st.i == 42) = false := by simp [x3]
        have HQ : Hid (Ref.quantF s st = ((Ref.countsF s st).1, (Ref.countsF s st).2.1, Ref.lazyF s (Ref.countsF s st).2.2)) := by show _ = _; unfold Ref.quantF; rw [if_neg x1, if_neg x2, if_neg x3]
        clear x1 x2 x3
        go_wp2_with fail
        refine (counts_any b s st _ (unhide hLL) hs hi).mono ?_
        rintro e w3 ⟨rfl, hL6, hO6⟩
        have hR6 := (unhide hRR).keep hO6 (by unfold Mine; omega)
        have hT6 := (unhide hTT).keep hO6 (by unfold Mine; omega)
        have hi2 := Ref.countsF_i s st hi
        generalize hr : Ref.countsF s st = r at *
        obtain ⟨mn, mx, st2⟩ := r
        simp only [] at *
        have hL7 := hide (hL6.keep (Only.six (w.heap.size + 1) w3 (.int .i64 6) (.bool false) (.slice none 0 0) (.int .i64 0) (.int .i64 mn) (.int .i64 mx)) (by unfold Mine; omega))
        have hO7 := hide (((unhide hOO).trans hO6).young (Only.six (w.heap.size + 1) w3 (.int .i64 6) (.bool false) (.slice none 0 0) (.int .i64 0) (.int .i64 mn) (.int .i64 mx)) (by omega))
        obtain ⟨a0, a1, a2, a3, a4, a5, c0, c1, c2, c3, c4, c5⟩ := hT6
        obtain ⟨g0, g1, g2, g3, g4, g5, d0, d1, d2, d3, d4, d5⟩ := hR6
        obtain ⟨z0, z1, z2, z3, j1, j2, j3⟩ := hL6
        clear hO6 hr l0 l1 l2 l3 k1 k2 k3 t0 t1 t2 t3 t4 t5 v0 v1 v2 v3 v4 v5 r0 r1 r2 r3 r4 r5 u0 u1 u2 u3 u4 u5
        by_cases e2 : st2.e = 0
        · have eb2 : (st2.e == 0) = true := by simp [e2]
          by_cases b2 : byteAt s st2.i = 63
          · have bb2 : (byteAt s st2.i == 63) = true := by simp [b2]
            have HH : Hid (Ref.quantF s st = (mn, mx, st2.go 1)) := by rw [unhide HQ]; show _ = _; unfold Ref.lazyF; rw [if_pos ⟨e2, b2⟩]
            clear e2 b2
            go_wp2_with fail
            refine (now_lex b s st2 _ (unhide hL7) hs).mono ?_
            rintro e w2 ⟨rfl, nq, rfl⟩
            go_wp2_with fail
            refine bodyPost_ret (v := .agg #[.int .i64 6, .bool false, .slice none 0 0, .int .i64 0, .int .i64 (mn), .int .i64 (mx)]) (by simp [results, Tryz.results56, go_sem, g0, g1, g2, g3, g4, g5]) rfl ?_
            rw [unhide HH]
            exact ⟨rfl, (((unhide hL7).drewN nq).setI _ 1 (by omega)).keep (Only.six w.heap.size _ _ _ _ _ _ _) (by unfold Mine; omega), (((unhide hO7).drewN nq).mine 1 _).young (Only.six w.heap.size _ _ _ _ _ _ _) (Nat.le_refl _)⟩
          · have bb2 : (byteAt s st2.i == 63) = false := by simp [b2]
            have HH : Hid (Ref.quantF s st = (mn, mx, st2)) := by rw [unhide HQ]; show _ = _; unfold Ref.lazyF; rw [if_neg (by intro hh; exact b2 hh.2)]
            clear e2 b2
            go_wp2_with fail
            refine (now_lex b s st2 _ (unhide hL7) hs).mono ?_
            rintro e w2 ⟨rfl, nq, rfl⟩
            go_wp2_with fail
            refine bodyPost_ret (v := .agg #[.int .i64 6, .bool false, .slice none 0 0, .int .i64 0, .int .i64 (mn), .int .i64 (mx)]) (by simp [results, Tryz.results56, go_sem, g0, g1, g2, g3, g4, g5]) rfl ?_
            rw [unhide HH]
            exact ⟨rfl, ((unhide hL7).drewN nq).keep (Only.six w.heap.size _ _ _ _ _ _ _) (by unfold Mine; omega), ((unhide hO7).drewN nq).young (Only.six w.heap.size _ _ _ _ _ _ _) (Nat.le_refl _)⟩
        · have eb2 : (st2.e == 0) = false := by simp [e2]
          have HH : Hid (Ref.quantF s st = (mn, mx, st2)) := by rw [unhide HQ]; show _ = _; unfold Ref.lazyF; rw [if_neg (by intro hh; exact e2 hh.1)]
          clear e2
          go_wp2_with fail
          refine bodyPost_ret (v := .agg #[.int .i64 6, .bool false, .slice none 0 0, .int .i64 0, .int .i64 (mn), .int .i64 (mx)]) (by simp [results, Tryz.results56, go_sem, g0, g1, g2, g3, g4, g5]) rfl ?_
          rw [unhide HH]
          exact ⟨rfl, (unhide hL7).keep (Only.six w.heap.size _ _ _ _ _ _ _) (by unfold Mine; omega), (unhide hO7).young (Only.six w.heap.size _ _ _ _ _ _ _) (Nat.le_refl _)⟩

end Go.Proofs.YtdhmllobgijggaaGreatDoor
namespace Go.Proofs.YtdhmllobgijggaaGreatDoor
open Go.RowKit

namespace Ref
/-- Not behind the end; and where nothing is wrong, a character begins. -/
def Fine (s : ByteArray) (st : St) : Prop := st.i ≤ s.size ∧ (st.e = 0 → Good s st.i)

theorem Fine.fail {s : ByteArray} {st : St} {e a : Int} (h : st.i ≤ s.size) (he : e ≠ 0) : Fine s (st.fail e a) :=
  ⟨by rw [fail_i]; exact h, fun h0 => absurd h0 (fail_ne st e a he)⟩

theorem hexV_ascii {b : Int} (h : 0 ≤ hexV b) : 0 ≤ b ∧ b < 128 := by unfold hexV at h; (repeat' split at h) <;> omega

theorem hexF_fine (s : ByteArray) : ∀ (n : Nat) (c : Int) (st : St), Good s st.i → Fine s (hexF s n c st).2 ∧ st.i ≤ (hexF s n c st).2.i
  | 0, c, st, h => ⟨⟨h.le, fun _ => h⟩, Nat.le_refl _⟩
  | n + 1, c, st, h => by
    by_cases hb : hexV (byteAt s st.i) < 0
    · rw [hexF_bad hb]
      exact ⟨Fine.fail h.le (by decide), by rw [fail_i]; exact Nat.le_refl _⟩
    · rw [hexF_good (by omega)]
      have ha := hexV_ascii (b := byteAt s st.i) (by omega)
      have := hexF_fine s n (16 * c + hexV (byteAt s st.i)) (st.go 1) (h.ascii ha.1 ha.2)
      exact ⟨this.1, by have := this.2; simp only [St.go] at this ⊢; omega⟩

theorem bracedF_fine (s : ByteArray) : ∀ (f : Nat) (c : Int) (n : Nat) (st : St), Good s st.i → Fine s (bracedF s f c n st).2 ∧ st.i ≤ (bracedF s f c n st).2.i
  | 0, c, n, st, h => ⟨⟨h.le, fun _ => h⟩, Nat.le_refl _⟩
  | f + 1, c, n, st, h => by
    by_cases hc : 0 < n ∧ byteAt s st.i = 125
    · rw [bracedF_close hc.1 hc.2]
      have hg := h.ascii (by omega) (by omega)
      exact ⟨⟨hg.le, fun _ => hg⟩, by simp only [St.go]; omega⟩
    · by_cases hb : hexV (byteAt s st.i) < 0 ∨ 1114111 < 16 * c + hexV (byteAt s st.i)
      · rw [bracedF_bad hc hb]
        exact ⟨Fine.fail h.le (by decide), by rw [fail_i]; exact Nat.le_refl _⟩
      · rw [bracedF_good hc hb]
        have ha := hexV_ascii (b := byteAt s st.i) (by omega)
        have := bracedF_fine s f (16 * c + hexV (byteAt s st.i)) (n + 1) (st.go 1) (h.ascii ha.1 ha.2)
        exact ⟨this.1, by have := this.2; simp only [St.go] at this ⊢; omega⟩

theorem halfD_digits (s : ByteArray) : ∀ (n k : Nat) (c : Int), 0 ≤ c → 0 ≤ halfD s n k c → Good s k → Good s (k + n)
  | 0, k, c, _, _, h => h
  | n + 1, k, c, h0, h1, h => by
    by_cases hb : hexV (byteAt s k) < 0
    · rw [halfD_bad hb] at h1; omega
    · rw [halfD_good (by omega)] at h1
      have ha := hexV_ascii (b := byteAt s k) (by omega)
      have := halfD_digits s n (k + 1) _ (by omega) h1 (h.ascii ha.1 ha.2)
      rw [show k + (n + 1) = k + 1 + n by omega]; exact this

theorem halfF_six {s : ByteArray} {i : Nat} (h : 0 ≤ halfF s i) (hg : Good s i) : Good s (i + 6) ∧ byteAt s i = 92 ∧ byteAt s (i + 1) = 117 := by
  unfold halfF at h
  split at h
  · omega
  · rename_i hn
    have h1 : byteAt s i = 92 := by omega
    have h2 : byteAt s (i + 1) = 117 := by omega
    have g1 := hg.ascii (by omega) (by omega)
    have g2 := g1.ascii (by omega) (by omega)
    exact ⟨halfD_digits s 4 (i + 2) 0 (by omega) h g2, h1, h2⟩

/-- The lexer stands at the u of an escape: the backslash ahead of it. -/
theorem unicodeF_fine {s : ByteArray} {st : St} (h1 : 1 ≤ st.i) (hg : Good s (st.i - 1)) (hb : byteAt s (st.i - 1) = 92) (hu : byteAt s st.i = 117) : Fine s (unicodeF s st).2 ∧ st.i ≤ (unicodeF s st).2.i := by
  have g0 : Good s st.i := by have := hg.ascii (by omega) (by omega); rwa [show st.i - 1 + 1 = st.i by omega] at this
  have g1 := g0.ascii (by omega) (by omega)
  unfold unicodeF
  split
  · rename_i h
    have g2 := g1.ascii (by omega) (by omega)
    have := bracedF_fine s (s.size + 1 - (st.go 2).i) 0 0 (st.go 2) g2
    exact ⟨this.1, by have := this.2; simp only [St.go, bracedR] at this ⊢; omega⟩
  · split
    · rename_i h
      simp only [pairB, Bool.and_eq_true, decide_eq_true_eq] at h
      have a1 := (halfF_six (by omega) hg).1
      rw [show st.i - 1 + 6 = st.i + 5 by omega] at a1
      have a2 := (halfF_six (by omega) a1).1
      exact ⟨⟨a2.le, fun _ => a2⟩, by simp only [St.go]; omega⟩
    · have := hexF_fine s 4 0 (st.go 1) g1
      exact ⟨this.1, by have := this.2; simp only [St.go] at this ⊢; omega⟩

theorem signB_ascii {b : Int} (h : signB b = true) : 0 ≤ b ∧ b < 128 := by
  simp [signB] at h; omega

theorem numberF_fine {s : ByteArray} {cls : Bool} {st : St} (h1 : 1 ≤ st.i) (hg : Good s (st.i - 1)) (hb : byteAt s (st.i - 1) = 92) : Fine s (numberF s cls st).2 ∧ st.i ≤ (numberF s cls st).2.i := by
  have g0 : Good s st.i := by have := hg.ascii (by omega) (by omega); rwa [show st.i - 1 + 1 = st.i by omega] at this
  have step : 0 ≤ byteAt s st.i → byteAt s st.i < 128 → Fine s (st.go 1) ∧ st.i ≤ (st.go 1).i := fun a b => ⟨⟨(g0.ascii a b).le, fun _ => g0.ascii a b⟩, by simp only [St.go]; omega⟩
  unfold numberF
  split
  · rename_i h
    have : 0 ≤ byteAt s st.i ∧ byteAt s st.i < 128 := by unfold controlV at h; (repeat' split at h) <;> omega
    exact step this.1 this.2
  split
  · have hs := step (by omega) (by omega)
    dsimp only
    split
    · exact ⟨Fine.fail hs.1.1 (by decide), by rw [fail_i]; exact hs.2⟩
    · exact hs
  split
  · have hs := step (by omega) (by omega)
    have g1 := g0.ascii (by omega) (by omega)
    split
    · have g2 := g1.ascii (by omega) (by omega)
      exact ⟨⟨g2.le, fun _ => g2⟩, by simp only [St.go]; omega⟩
    · exact ⟨Fine.fail hs.1.1 (by decide), by rw [fail_i]; exact hs.2⟩
  split
  · have g1 := g0.ascii (by omega) (by omega)
    have := hexF_fine s 2 0 (st.go 1) g1
    exact ⟨this.1, by have := this.2; simp only [St.go] at this ⊢; omega⟩
  split
  · rename_i h
    exact unicodeF_fine h1 hg hb h
  split
  · rename_i h
    have : 0 ≤ byteAt s st.i ∧ byteAt s st.i < 128 := by
      rcases h with h | h
      · exact signB_ascii h
      · omega
    exact step this.1 this.2
  split
  · exact step (by omega) (by omega)
  · exact ⟨Fine.fail g0.le (by decide), by rw [fail_i]; exact Nat.le_refl _⟩

theorem setL_ascii {b : Int} (h : setL b ≠ []) : 0 ≤ b ∧ b < 128 := by
  unfold setL at h; (repeat' split at h) <;> first | omega | simp at h

theorem escapeF_fine {s : ByteArray} {cls : Bool} {st : St} (hg : Good s st.i) (hb : byteAt s st.i = 92) : Fine s (escapeF s cls st).2.2 ∧ st.i < (escapeF s cls st).2.2.i := by
  have g1 := hg.ascii (by omega) (by omega)
  unfold escapeF
  split
  · exact ⟨Fine.fail g1.le (by decide), by rw [fail_i]; simp only [St.go]; omega⟩
  split
  · rename_i h
    have ha := setL_ascii h
    have g2 := g1.ascii ha.1 ha.2
    exact ⟨⟨g2.le, fun _ => g2⟩, by simp only [St.go]; omega⟩
  · have := numberF_fine (cls := cls) (st := st.go 1) (by simp only [St.go]; omega) (by simp only [St.go, Nat.add_sub_cancel]; exact hg) (by simp only [St.go, Nat.add_sub_cancel]; exact hb)
    exact ⟨this.1, by have := this.2; simp only [St.go] at this ⊢; omega⟩

theorem memberF_fine {s : ByteArray} {st : St} (hg : Good s st.i) (hi : st.i < s.size) : Fine s (memberF s st).2.2 ∧ st.i < (memberF s st).2.2.i := by
  unfold memberF
  split
  · rename_i h; exact escapeF_fine hg h
  · obtain ⟨n, c, ho, hn⟩ := hg.next hi
    rw [ho]
    have hb := oneF_bd ho
    exact ⟨⟨hn.le, fun _ => hn⟩, by simp only [St.go]; omega⟩

/-- A member that is one number is one span, where nothing is wrong. -/
theorem escapeF_one {s : ByteArray} {cls : Bool} {st : St} (h : (escapeF s cls st).2.1 = true) (he : (escapeF s cls st).2.2.e = 0) : ∃ c, (escapeF s cls st).1.spans = [(c, c)] := by
  unfold escapeF at *
  split
  · rename_i hb
    rw [if_pos hb] at he
    exact absurd he (fail_ne _ _ _ (by decide))
  · rename_i hb
    rw [if_neg hb] at h he
    split
    · rename_i h2; rw [if_pos h2] at h; simp at h
    · exact ⟨_, rfl⟩
theorem memberF_one {s : ByteArray} {st : St} (hg : Good s st.i) (hi : st.i < s.size) (h : (memberF s st).2.1 = true) (he : (memberF s st).2.2.e = 0) : ∃ c, (memberF s st).1.spans = [(c, c)] := by
  unfold memberF at *
  split
  · rename_i hb
    rw [if_pos hb] at h he
    exact escapeF_one h he
  · obtain ⟨n, c, ho, hn⟩ := hg.next hi
    rw [ho]; exact ⟨c, rfl⟩
end Ref
end Go.Proofs.YtdhmllobgijggaaGreatDoor
namespace Go.Proofs.YtdhmllobgijggaaGreatDoor
open Go.RowKit

theorem Only.ofGrown {w w' : World} {row : Option Nat} (h : w.grownBy w' row) : Only (fun k => row = some k) w w' :=
  ⟨h.os, h.tape, h.output, h.size, fun k hk hn => h.block k hk (fun e => hn e.symm)⟩

theorem own_ne {w : World} {base base' : Nat} {e e' : TypeId} {size size' : Nat} {v v' : Value} {n n' : Nat} {xs xs' : List Value} (h : w.ownsRow base e size v n xs) (h' : w.ownsRow base' e' size' v' n' xs') (he : e ≠ e') (g : Nat) (hg : v.ownBlock = some g) : ¬ v'.ownBlock = some g := by
  intro hg'
  obtain ⟨_, h2⟩ := h
  obtain ⟨_, h2'⟩ := h'
  rcases h2 with ⟨rfl, _⟩ | ⟨g1, cap, cur, rfl, hb, hh, _⟩
  · simp [Value.ownBlock] at hg
  rcases h2' with ⟨rfl, _⟩ | ⟨g2, cap', cur', rfl, hb', hh', _⟩
  · simp [Value.ownBlock] at hg'
  simp only [Value.ownBlock, Option.some.injEq] at hg hg'
  subst hg; subst hg'
  rw [hh] at hh'
  simp only [Option.some.injEq, Obj.cells.injEq] at hh'
  exact he hh'.2.1

/-- A part's two cells: whether it is turned round, and its spans. -/
def PartsOK (w : World) (base : Nat) : List Pt → List Value → Prop
  | [], [] => True
  | p :: ps, b :: v :: vs => b = .bool p.neg ∧ SpansAt w base v p.spans ∧ PartsOK w base ps vs
  | _, _ => False

def PartsAt (w : World) (base : Nat) (v : Value) (l : List Pt) : Prop := ∃ cs, w.ownsRow base 184 2 v l.length cs ∧ PartsOK w base l cs

theorem PartsOK.keep {P : Nat → Prop} {w w' : World} {base : Nat} (k : Only P w w') (hn : ∀ g, base ≤ g → g < w.heap.size → ¬ P g) : ∀ (l : List Pt) (cs : List Value), PartsOK w base l cs → PartsOK w' base l cs
  | [], [], _ => trivial
  | _p :: ps, _b :: _v :: vs, h => ⟨h.1, h.2.1.keep k hn, PartsOK.keep k hn ps vs h.2.2⟩
  | [], _ :: _, h => h
  | _ :: _, [], h => h
  | _ :: _, [_], h => h
theorem PartsAt.keep {P : Nat → Prop} {w w' : World} {base : Nat} {v : Value} {l : List Pt} (h : PartsAt w base v l) (k : Only P w w') (hn : ∀ g, base ≤ g → g < w.heap.size → ¬ P g) : PartsAt w' base v l := by
  obtain ⟨cs, h1, h2⟩ := h
  exact ⟨cs, ownsRow_keep h1 k (fun g hg => hn g (ownsRow_block h1 g hg).1 (ownsRow_block h1 g hg).2), PartsOK.keep k hn l cs h2⟩
theorem PartsOK.base {w : World} {base base' : Nat} (hb : base' ≤ base) : ∀ (l : List Pt) (cs : List Value), PartsOK w base l cs → PartsOK w base' l cs
  | [], [], _ => trivial
  | _p :: ps, _b :: _v :: vs, h => ⟨h.1, h.2.1.base hb, PartsOK.base hb ps vs h.2.2⟩
  | [], _ :: _, h => h
  | _ :: _, [], h => h
  | _ :: _, [_], h => h
theorem PartsAt.base {w : World} {base base' : Nat} {v : Value} {l : List Pt} (h : PartsAt w base v l) (hb : base' ≤ base) : PartsAt w base' v l := by
  obtain ⟨cs, h1, h2⟩ := h
  exact ⟨cs, ownsRow_base h1 hb, PartsOK.base hb l cs h2⟩
theorem PartsAt.nil (w : World) (base : Nat) : PartsAt w base (.slice none 0 0) [] := ⟨[], World.ownsRow_nil _ _ _ _, trivial⟩
/-- Spans lie in no row of parts. -/
theorem SpansAt.grown {w w' : World} {base base' : Nat} {sv v : Value} {n : Nat} {xs : List Value} {l : List (Int × Int)} (h : SpansAt w base sv l) (hr : w.ownsRow base' 184 2 v n xs) (hg : w.grownBy w' v.ownBlock) : SpansAt w' base sv l :=
  ownsRow_keep h (Only.ofGrown hg) (fun g h1 h2 => own_ne h hr (by decide) g h1 h2)
theorem PartsOK.grown {w w' : World} {base base' : Nat} {v : Value} {n : Nat} {xs : List Value} (hr : w.ownsRow base' 184 2 v n xs) (hg : w.grownBy w' v.ownBlock) : ∀ (l : List Pt) (cs : List Value), PartsOK w base l cs → PartsOK w' base l cs
  | [], [], _ => trivial
  | _p :: ps, _b :: _v :: vs, h => ⟨h.1, h.2.1.grown hr hg, PartsOK.grown hr hg ps vs h.2.2⟩
  | [], _ :: _, h => h
  | _ :: _, [], h => h
  | _ :: _, [_], h => h
theorem PartsOK.append {w : World} {base : Nat} {p : Pt} {sv : Value} (hs : SpansAt w base sv p.spans) : ∀ (l : List Pt) (cs : List Value), PartsOK w base l cs → PartsOK w base (l ++ [p]) (cs ++ [.bool p.neg, sv])
  | [], [], _ => ⟨rfl, hs, trivial⟩
  | _q :: ps, _b :: _v :: vs, h => ⟨h.1, h.2.1, PartsOK.append hs ps vs h.2.2⟩
  | [], _ :: _, h => h.elim
  | _ :: _, [], h => h.elim
  | _ :: _, [_], h => h.elim
/-- Behind 'append' a row of parts is one longer. -/
theorem PartsAt.appended {w w' : World} {base : Nat} {v v' : Value} {l : List Pt} {cs : List Value} {p : Pt} {sv : Value} (h1 : w.ownsRow base 184 2 v l.length cs) (h2 : PartsOK w base l cs) (hs : SpansAt w base sv p.spans)
    (hown : w'.ownsRow base 184 2 v' (l.length + 1) (cs ++ [.bool p.neg, sv])) (hg : w.grownBy w' v.ownBlock) : PartsAt w' base v' (l ++ [p]) :=
  ⟨cs ++ [.bool p.neg, sv], by rw [List.length_append]; exact hown, PartsOK.append (hs.grown h1 hg) l cs (PartsOK.grown h1 hg l cs h2)⟩

namespace Ref
def rangeB (s : ByteArray) (st : St) : Bool := decide (st.e = 0) && decide (byteAt s st.i = 45) && decide (st.i + 1 < s.size) && decide (byteAt s (st.i + 1) ≠ 93)
def loOf (p : Pt) : Int := match p.spans with
  | [] => 0
  | x :: _ => x.1
/-- A range's two members: is it one? -/
def badB (p q : Pt) (one two : Bool) : Bool := !one || !two || decide (loOf q < loOf p)
def classF (s : ByteArray) : Nat → List Pt → St → List Pt × St
  | 0, ps, st => (ps, st)
  | f + 1, ps, st =>
    if st.e = 0 ∧ byteAt s st.i ≠ 93 then
      (if byteAt s st.i < 0 then (ps, st.fail 3 st.i)
       else if rangeB s (memberF s st).2.2 = true then
        (if (memberF s ((memberF s st).2.2.go 1)).2.2.e ≠ 0 then (ps, (memberF s ((memberF s st).2.2.go 1)).2.2)
         else if badB (memberF s st).1 (memberF s ((memberF s st).2.2.go 1)).1 (memberF s st).2.1 (memberF s ((memberF s st).2.2.go 1)).2.1 = true then (ps, (memberF s ((memberF s st).2.2.go 1)).2.2.fail 4 (memberF s st).2.2.i)
         else classF s f (ps ++ [⟨(memberF s st).1.neg, [(loOf (memberF s st).1, loOf (memberF s ((memberF s st).2.2.go 1)).1)]⟩]) (memberF s ((memberF s st).2.2.go 1)).2.2)
       else classF s f (ps ++ [(memberF s st).1]) (memberF s st).2.2)
    else (ps, st.go 1)
def notB (s : ByteArray) (st : St) : Bool := decide (byteAt s st.i = 94)
def classSt (s : ByteArray) (st : St) : St := if notB s st = true then st.go 1 else st
def classR (s : ByteArray) (st : St) : List Pt × St := classF s (s.size + 1 - (classSt s st).i) [] (classSt s st)
section
variable {s : ByteArray} {f : Nat} {ps : List Pt} {st : St}
theorem classF_end (h : ¬ (st.e = 0 ∧ byteAt s st.i ≠ 93)) : classF s (f + 1) ps st = (ps, st.go 1) := by simp only [classF]; rw [if_neg h]
theorem classF_open (h : st.e = 0 ∧ byteAt s st.i ≠ 93) (h1 : byteAt s st.i < 0) : classF s (f + 1) ps st = (ps, st.fail 3 st.i) := by simp only [classF]; rw [if_pos h, if_pos h1]
theorem classF_one (h : st.e = 0 ∧ byteAt s st.i ≠ 93) (h1 : ¬ byteAt s st.i < 0) (h2 : ¬ rangeB s (memberF s st).2.2 = true) : classF s (f + 1) ps st = classF s f (ps ++ [(memberF s st).1]) (memberF s st).2.2 := by
  simp only [classF]; rw [if_pos h, if_neg h1, if_neg h2]
theorem classF_dead (h : st.e = 0 ∧ byteAt s st.i ≠ 93) (h1 : ¬ byteAt s st.i < 0) (h2 : rangeB s (memberF s st).2.2 = true) (h3 : ¬ (memberF s ((memberF s st).2.2.go 1)).2.2.e = 0) : classF s (f + 1) ps st = (ps, (memberF s ((memberF s st).2.2.go 1)).2.2) := by
  simp only [classF]; rw [if_pos h, if_neg h1, if_pos h2, if_pos h3]
theorem classF_bad (h : st.e = 0 ∧ byteAt s st.i ≠ 93) (h1 : ¬ byteAt s st.i < 0) (h2 : rangeB s (memberF s st).2.2 = true) (h3 : (memberF s ((memberF s st).2.2.go 1)).2.2.e = 0)
    (h4 : badB (memberF s st).1 (memberF s ((memberF s st).2.2.go 1)).1 (memberF s st).2.1 (memberF s ((memberF s st).2.2.go 1)).2.1 = true) : classF s (f + 1) ps st = (ps, (memberF s ((memberF s st).2.2.go 1)).2.2.fail 4 (memberF s st).2.2.i) := by
  simp only [classF]; rw [if_pos h, if_neg h1, if_pos h2, if_neg (by simp [h3]), if_pos h4]
theorem classF_range (h : st.e = 0 ∧ byteAt s st.i ≠ 93) (h1 : ¬ byteAt s st.i < 0) (h2 : rangeB s (memberF s st).2.2 = true) (h3 : (memberF s ((memberF s st).2.2.go 1)).2.2.e = 0)
    (h4 : ¬ badB (memberF s st).1 (memberF s ((memberF s st).2.2.go 1)).1 (memberF s st).2.1 (memberF s ((memberF s st).2.2.go 1)).2.1 = true) :
    classF s (f + 1) ps st = classF s f (ps ++ [⟨(memberF s st).1.neg, [(loOf (memberF s st).1, loOf (memberF s ((memberF s st).2.2.go 1)).1)]⟩]) (memberF s ((memberF s st).2.2.go 1)).2.2 := by
  simp only [classF]; rw [if_pos h, if_neg h1, if_pos h2, if_neg (by simp [h3]), if_neg h4]
end
end Ref
end Go.Proofs.YtdhmllobgijggaaGreatDoor
