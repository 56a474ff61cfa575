/- The reader's letters beside the lexer's bytes. -/
import Derived.Test.YtdhmllobgijggaaGreatDoorKRefSV
import Derived.Test.YtdhmllobgijggaaGreatDoorKProFH
namespace Go.Proofs.YtdhmllobgijggaaGreatDoor
open Go.RowKit

namespace Eqv
/-- The letters of a text from a byte on: place and number. -/
def letF (s : ByteArray) : Nat → Nat → List (Int × Int)
  | 0, _ => []
  | f + 1, p => if p < s.size then (match Ref.oneF s p with
      | none => []
      | some (n, c) => ((p : Int), c) :: letF s f (p + n)) else []

/-- The reader's letter n begins at the byte p. -/
structure Br (s : ByteArray) (L : List (Int × Int)) (n p : Nat) : Prop where
  good : Ref.Good s p
  le : n ≤ L.length
  rest : ∃ f, s.size < p + f ∧ L.drop n = letF s f p

theorem Br.step {s : ByteArray} {L : List (Int × Int)} {n p : Nat} (h : Br s L n p) (hp : p < s.size) : ∃ k c, Ref.oneF s p = some (k, c) ∧ L[n]? = some ((p : Int), c) ∧ Br s L (n + 1) (p + k) := by
  obtain ⟨k, c, ho, hg⟩ := h.good.next hp
  obtain ⟨f, hf, hd⟩ := h.rest
  obtain ⟨f, rfl⟩ : ∃ f', f = f' + 1 := ⟨f - 1, by omega⟩
  simp only [letF] at hd
  rw [if_pos hp, ho] at hd
  have hb := Ref.oneF_bd ho
  have hlt : n < L.length := by
    have : (L.drop n).length = L.length - n := List.length_drop
    rw [hd] at this
    simp only [List.length_cons] at this
    omega
  have hg0 : L[n]? = some ((p : Int), c) := by
    have : (L.drop n)[0]? = L[n + 0]? := List.getElem?_drop
    rw [hd] at this
    simpa using this.symm
  refine ⟨k, c, ho, hg0, hg, by omega, f, by omega, ?_⟩
  rw [← List.drop_drop, hd]
  rfl
theorem Br.stop {s : ByteArray} {L : List (Int × Int)} {n p : Nat} (h : Br s L n p) (hp : ¬ p < s.size) : n = L.length := by
  obtain ⟨f, hf, hd⟩ := h.rest
  have he : letF s f p = [] := by
    cases f with
    | zero => rfl
    | succ f => simp only [letF]; rw [if_neg hp]
  have : (L.drop n).length = L.length - n := List.length_drop
  rw [hd, he] at this
  simp only [List.length_nil] at this
  have := h.le
  omega
theorem Br.lt {s : ByteArray} {L : List (Int × Int)} {n p : Nat} (h : Br s L n p) : n < L.length ↔ p < s.size := by
  constructor
  · intro hn
    by_cases hp : p < s.size
    · exact hp
    · have := h.stop hp; omega
  · intro hp
    obtain ⟨k, c, _, hg, _⟩ := h.step hp
    by_cases hn : n < L.length
    · exact hn
    · rw [List.getElem?_eq_none (by omega)] at hg; cases hg
theorem Br.place {s : ByteArray} {L : List (Int × Int)} {n p : Nat} (h : Br s L n p) : Pro.placeAt L (s.size : Nat) n = p := by
  by_cases hp : p < s.size
  · obtain ⟨k, c, _, hg, _⟩ := h.step hp
    unfold Pro.placeAt; rw [hg]
  · have := h.stop hp
    rw [Pro.placeAt_out (by omega)]
    have := h.good.le
    omega
theorem one_low {s : ByteArray} {p k : Nat} {c : Int} (ho : Ref.oneF s p = some (k, c)) (hb : byteAt s p < 128) : k = 1 ∧ c = byteAt s p := by
  have h1 : Ref.headK (byteAt s p) = 1 := by unfold Ref.headK Ref.headN; rw [if_pos hb]; rfl
  have h2 : Ref.headC (byteAt s p) = byteAt s p := by unfold Ref.headC; rw [if_pos hb]
  have hk := (Ref.oneF_bd ho).2.2.2.1
  refine ⟨by omega, ?_⟩
  unfold Ref.oneF at ho
  split at ho
  · cases ho
  · rw [h1, h2] at ho
    simp only [Nat.sub_self, Ref.contF] at ho
    split at ho
    · cases ho
    · simp only [Option.some.injEq, Prod.mk.injEq] at ho
      exact ho.2.symm
theorem one_high {s : ByteArray} {p k : Nat} {c : Int} (ho : Ref.oneF s p = some (k, c)) (hb : 128 ≤ byteAt s p) : 128 ≤ c := by
  have hbd := Ref.oneF_bd ho
  have hk : k ≠ 1 := by
    rw [hbd.2.2.2.1]
    unfold Ref.headK Ref.headN
    rw [if_neg (by omega)]
    (repeat' split) <;> decide
  unfold Ref.oneF at ho
  split at ho
  · cases ho
  · split at ho
    · cases ho
    · split at ho
      · cases ho
      · rename_i hbad
        simp only [Option.some.injEq, Prod.mk.injEq] at ho
        obtain ⟨hk1, rfl⟩ := ho
        simp only [Ref.badC, Bool.or_eq_true, Bool.and_eq_true, decide_eq_true_eq] at hbad
        rw [hk1] at hbad
        have : 128 ≤ Ref.leastV (k : Int) := by
          have h4 := hbd.2.2.1
          have h1 := hbd.1
          have : k = 2 ∨ k = 3 ∨ k = 4 := by omega
          rcases this with rfl | rfl | rfl <;> decide
        omega
theorem Br.letter {s : ByteArray} {L : List (Int × Int)} {n p k : Nat} {c : Int} (h : Br s L n p) (hp : p < s.size) (ho : Ref.oneF s p = some (k, c)) : Pro.letAt L n = c ∧ Br s L (n + 1) (p + k) := by
  obtain ⟨k', c', ho', hg, hn⟩ := h.step hp
  rw [ho] at ho'
  simp only [Option.some.injEq, Prod.mk.injEq] at ho'
  obtain ⟨rfl, rfl⟩ := ho'
  exact ⟨by unfold Pro.letAt; rw [hg], hn⟩
theorem Br.ascii {s : ByteArray} {L : List (Int × Int)} {n p : Nat} (h : Br s L n p) (hb : byteAt s p < 128) : Pro.letAt L n = byteAt s p := by
  by_cases hp : p < s.size
  · obtain ⟨k, c, ho, hg, _⟩ := h.step hp
    unfold Pro.letAt; rw [hg]
    exact (one_low ho hb).2
  · have := h.stop hp
    rw [Pro.letAt_out (by omega), byteAt_out s p (by omega)]
theorem Br.high {s : ByteArray} {L : List (Int × Int)} {n p : Nat} (h : Br s L n p) (hb : 128 ≤ byteAt s p) : 128 ≤ Pro.letAt L n := by
  have hp : p < s.size := (byteAt_nonneg s p).1 (by omega)
  obtain ⟨k, c, ho, hg, _⟩ := h.step hp
  unfold Pro.letAt; rw [hg]
  exact one_high ho hb
/-- Letter and byte: alike, or both are beyond ASCII. -/
theorem Br.alike {s : ByteArray} {L : List (Int × Int)} {n p : Nat} (h : Br s L n p) : (Pro.letAt L n = byteAt s p ∧ byteAt s p < 128) ∨ (128 ≤ Pro.letAt L n ∧ 128 ≤ byteAt s p) := by
  by_cases hb : byteAt s p < 128
  · exact .inl ⟨h.ascii hb, hb⟩
  · exact .inr ⟨h.high (by omega), by omega⟩
theorem Br.next {s : ByteArray} {L : List (Int × Int)} {n p : Nat} (h : Br s L n p) (h0 : 0 ≤ byteAt s p) (hb : byteAt s p < 128) : Br s L (n + 1) (p + 1) := by
  have hp : p < s.size := (byteAt_nonneg s p).1 h0
  obtain ⟨k, c, ho, hg, hn⟩ := h.step hp
  obtain ⟨rfl, _⟩ := one_low ho hb
  exact hn
theorem Br.fit {s : ByteArray} {L : List (Int × Int)} {n p : Nat} (h : Br s L n p) : -1 ≤ Pro.letAt L n ∧ Pro.letAt L n ≤ 1114111 := by
  by_cases hp : p < s.size
  · obtain ⟨k, c, ho, hg, _⟩ := h.step hp
    unfold Pro.letAt; rw [hg]
    have := Ref.oneF_bd ho
    show -1 ≤ c ∧ c ≤ 1114111
    omega
  · have := h.stop hp
    rw [Pro.letAt_out (by omega)]; omega
theorem Br.hexV {s : ByteArray} {L : List (Int × Int)} {n p : Nat} (h : Br s L n p) : Pro.hexV (Pro.letAt L n) = Ref.hexV (byteAt s p) := by
  have : Pro.hexV = Ref.hexV := rfl
  rw [this]
  rcases h.alike with ⟨e, _⟩ | ⟨h1, h2⟩
  · rw [e]
  · unfold Ref.hexV
    rw [if_neg (by omega), if_neg (by omega), if_neg (by omega), if_neg (by omega), if_neg (by omega), if_neg (by omega)]
/-- The whole text's letters. -/
theorem Br.start {s : ByteArray} (h : Ref.Good s 0) : Br s (letF s (s.size + 1) 0) 0 0 := ⟨h, by omega, s.size + 1, by omega, rfl⟩

/-- A reader's answer beside a lexer's: the same fault at the same place; or none, and both stand at one place. -/
def Same (s : ByteArray) (L : List (Int × Int)) (o : Pro.Out) (v : Int) (st : St) : Prop :=
  (o.k = 0 → st.e = 0 ∧ st.a = 0 ∧ v = o.v ∧ Br s L o.n st.i) ∧ (o.k ≠ 0 → st.e = (o.k : Int) ∧ st.a = o.p)
theorem same_bad {s : ByteArray} {L : List (Int × Int)} {k n p i : Nat} {q : Int} {v : Int} (hk : k ≠ 0) (hq : q = (p : Int)) : Same s L (Pro.bad k q n) v ⟨i, k, p⟩ := by
  subst hq
  exact ⟨fun h => absurd h hk, fun _ => ⟨rfl, rfl⟩⟩
end Eqv
end Go.Proofs.YtdhmllobgijggaaGreatDoor
