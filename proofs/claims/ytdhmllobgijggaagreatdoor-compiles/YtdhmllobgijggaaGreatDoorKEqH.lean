/- The sizes of tokens in a row. -/
import Derived.Test.YtdhmllobgijggaaGreatDoorKRefSV
namespace Go.Proofs.YtdhmllobgijggaaGreatDoor
open Go.RowKit

namespace Ref
/-- The place of the token with which a group closes. -/
def scan : List Tok → Int → Nat → Option Nat
  | [], _, _ => none
  | t :: r, op, k => if turnO t.kind op = 0 then some k else scan r (turnO t.kind op) (k + 1)
theorem scan_cons (t : Tok) (r : List Tok) (op : Int) (k : Nat) : scan (t :: r) op k = if turnO t.kind op = 0 then some k else scan r (turnO t.kind op) (k + 1) := rfl
/-- A quantifier's size. -/
def qsize (k mn mx : Int) : Int := if mx < 0 then (if mn = 0 then 1 else mn) * k + 1 else mn * k + (mx - mn) * (k + 1)
def headKind (l : List Tok) : Int := kindAt l 0
/-- The tokens behind an atom, with its quantifier, and the size with it. -/
def behindAtom (rest : List Tok) (k : Int) : Int × List Tok := match rest with
  | [] => (k, [])
  | q :: r => if q.kind = 6 then (qsize k q.mn q.mx, r) else (k, q :: r)
def sizeS : Nat → List Tok → Int → Option Int
  | 0, _, _ => none
  | _ + 1, [], n => some n
  | f + 1, t :: r, n =>
    if t.kind = 5 then sizeS f r (n + 1)
    else if t.kind = 3 then
      (match scan r 1 0 with
       | none => none
       | some j => match sizeS f (r.take j) 0 with
         | none => none
         | some k => sizeS f (behindAtom (r.drop (j + 1)) k).2 (min 1000000 (n + (behindAtom (r.drop (j + 1)) k).1)))
    else sizeS f (behindAtom r 1).2 (min 1000000 (n + (behindAtom r 1).1))
def SizeIs (l : List Tok) (n z : Int) : Prop := ∃ f, sizeS f l n = some z
theorem sizeS_up : ∀ (f : Nat) (l : List Tok) (n z : Int), sizeS f l n = some z → sizeS (f + 1) l n = some z
  | 0, l, n, z, h => by simp [sizeS] at h
  | f + 1, [], n, z, h => by simpa [sizeS] using h
  | f + 1, t :: r, n, z, h => by
    unfold sizeS at h
    rw [show f + 1 + 1 = (f + 1) + 1 from rfl]
    unfold sizeS
    split at h
    · rename_i h5; rw [if_pos h5]; exact sizeS_up f _ _ _ h
    · rename_i h5
      rw [if_neg h5]
      split at h
      · rename_i h3
        rw [if_pos h3]
        split at h
        · cases h
        · rename_i j hj
          split at h
          · cases h
          · rename_i k hk
            rw [sizeS_up f _ _ _ hk]
            exact sizeS_up f _ _ _ h
      · rename_i h3; rw [if_neg h3]; exact sizeS_up f _ _ _ h
theorem sizeS_le {f g : Nat} {l : List Tok} {n z : Int} (h : sizeS f l n = some z) (hg : f ≤ g) : sizeS g l n = some z := by
  induction g with
  | zero => have : f = 0 := by omega
            subst this; exact h
  | succ g ih =>
    by_cases hfg : f = g + 1
    · subst hfg; exact h
    · exact sizeS_up g l n z (ih (by omega))
/-- A token's counts stay within their bounds. -/
def TokB (t : Tok) : Prop := 0 ≤ t.mn ∧ t.mn ≤ 100 ∧ -1 ≤ t.mx ∧ t.mx ≤ 100 ∧ (t.mx = -1 ∨ t.mn ≤ t.mx)
/-- A row of tokens in which every group is closed, and none that was open before. -/
def Bal (ts : List Tok) : Prop := (∀ (op : Int) (rest : List Tok) (k : Nat), 1 ≤ op → scan (ts ++ rest) op k = scan rest op (k + ts.length)) ∧ ∀ t ∈ ts, TokB t
theorem Bal.nil : Bal [] := ⟨fun op rest k _ => by simp, fun t h => by cases h⟩
theorem Bal.append {a b : List Tok} (ha : Bal a) (hb : Bal b) : Bal (a ++ b) := by
  refine ⟨fun op rest k h => ?_, fun t h => ?_⟩
  · rw [List.append_assoc, ha.1 op _ k h, hb.1 op _ _ h, List.length_append, Nat.add_assoc]
  · rcases List.mem_append.1 h with h | h
    · exact ha.2 t h
    · exact hb.2 t h
theorem Bal.one {t : Tok} (h3 : t.kind ≠ 3) (h4 : t.kind ≠ 4) (hb : TokB t) : Bal [t] := by
  refine ⟨fun op rest k h => ?_, fun u h => by simp at h; subst h; exact hb⟩
  have : turnO t.kind op = op := by unfold turnO; rw [if_neg h3, if_neg h4]
  show scan (t :: rest) op k = _
  rw [scan_cons, this, if_neg (by omega)]
  rfl
theorem Bal.group {o c : Tok} {ts : List Tok} (ho : o.kind = 3) (hc : c.kind = 4) (hbo : TokB o) (hbc : TokB c) (h : Bal ts) : Bal (o :: ts ++ [c]) := by
  refine ⟨fun op rest k hop => ?_, fun t ht => by
    simp at ht
    rcases ht with rfl | ht | rfl
    · exact hbo
    · exact h.2 t ht
    · exact hbc⟩
  have e1 : turnO o.kind op = op + 1 := by unfold turnO; rw [if_pos ho]
  have e2 : turnO c.kind (op + 1) = op := by unfold turnO; rw [if_neg (by omega), if_pos hc]; omega
  show scan (o :: (ts ++ [c] ++ rest)) op k = _
  rw [scan_cons, e1, if_neg (by omega), List.append_assoc, h.1 (op + 1) _ _ (by omega)]
  show scan (c :: rest) (op + 1) _ = _
  rw [scan_cons, e2, if_neg (by omega)]
  simp only [List.length_cons, List.length_append, List.length_nil]
  rw [show k + 1 + ts.length + 1 = k + (ts.length + 1 + (0 + 1)) by omega]
/-- These tokens add so much to a size that is counted up to 301. -/
def AddsTo (ts : List Tok) (v : Int) : Prop := ∀ n : Int, 0 ≤ n → ∃ n', 0 ≤ n' ∧ min n' 301 = min (n + v) 301 ∧ ∀ rest z, headKind rest ≠ 6 → SizeIs rest n' z → SizeIs (ts ++ rest) n z
theorem AddsTo.nil : AddsTo [] 0 := fun n h => ⟨n, h, by rw [Int.add_zero], fun _ _ _ hz => hz⟩
theorem AddsTo.append {a b : List Tok} {x y : Int} (ha : AddsTo a x) (hb : AddsTo b y) (hx : 0 ≤ x) (hy : 0 ≤ y) (hh : headKind b ≠ 6) : AddsTo (a ++ b) (min (x + y) 301) := fun n h => by
  obtain ⟨n1, p1, q1, r1⟩ := ha n h
  obtain ⟨n2, p2, q2, r2⟩ := hb n1 p1
  refine ⟨n2, p2, by omega, fun rest z hr hz => ?_⟩
  rw [List.append_assoc]
  refine r1 (b ++ rest) z ?_ (r2 rest z hr hz)
  cases b with
  | nil => exact hr
  | cons t r => exact hh
theorem AddsTo.weak {a : List Tok} {x y : Int} (ha : AddsTo a x) (h : min x 301 = min y 301) (hx : 0 ≤ x) (_hy : 0 ≤ y) : AddsTo a y := fun n hn => by
  obtain ⟨n1, p1, q1, r1⟩ := ha n hn
  exact ⟨n1, p1, by omega, r1⟩
theorem AddsTo.bar {t : Tok} (h : t.kind = 5) : AddsTo [t] 1 := fun n hn => ⟨n + 1, by omega, rfl, fun rest z _ ⟨f, hf⟩ => ⟨f + 1, by show sizeS (f + 1) (t :: rest) n = _; unfold sizeS; rw [if_pos h]; exact hf⟩⟩
/-- A single token, without a quantifier and with one. -/
theorem AddsTo.one {t : Tok} (h5 : t.kind ≠ 5) (h3 : t.kind ≠ 3) : AddsTo [t] 1 := fun n hn => ⟨min 1000000 (n + 1), by omega, by omega, fun rest z hr ⟨f, hf⟩ => ⟨f + 1, by
  show sizeS (f + 1) (t :: rest) n = _
  unfold sizeS
  rw [if_neg h5, if_neg h3]
  have : behindAtom rest 1 = (1, rest) := by
    unfold behindAtom
    cases rest with
    | nil => rfl
    | cons q r => simp only []; rw [if_neg (show ¬ q.kind = 6 from hr)]
  rw [this]
  exact hf⟩⟩
theorem AddsTo.oneQ {t q : Tok} (h5 : t.kind ≠ 5) (h3 : t.kind ≠ 3) (h6 : q.kind = 6) (hq : 0 ≤ qsize 1 q.mn q.mx) : AddsTo [t, q] (qsize 1 q.mn q.mx) := fun n hn => ⟨min 1000000 (n + qsize 1 q.mn q.mx), by omega, by omega, fun rest z hr ⟨f, hf⟩ => ⟨f + 1, by
  show sizeS (f + 1) (t :: q :: rest) n = _
  unfold sizeS
  rw [if_neg h5, if_neg h3]
  have : behindAtom (q :: rest) 1 = (qsize 1 q.mn q.mx, rest) := by unfold behindAtom; simp only []; rw [if_pos h6]
  rw [this]
  exact hf⟩⟩
/-- The size of a whole row. -/
theorem AddsTo.whole {ts : List Tok} {v : Int} (h : AddsTo ts v) : ∃ z, 0 ≤ z ∧ min z 301 = min v 301 ∧ SizeIs ts 0 z := by
  obtain ⟨n', p, q, r⟩ := h 0 (by omega)
  refine ⟨n', p, by omega, ?_⟩
  have := r [] n' (by decide) ⟨1, rfl⟩
  rw [List.append_nil] at this
  exact this
theorem scan_close {ts rest : List Tok} {c : Tok} (hB : Bal ts) (hc : c.kind = 4) : scan (ts ++ c :: rest) 1 0 = some ts.length := by
  rw [hB.1 1 _ 0 (by omega), scan_cons]
  have : turnO c.kind 1 = 0 := by unfold turnO; rw [if_neg (by omega), if_pos hc]; rfl
  rw [this, if_pos rfl, Nat.zero_add]
/-- A group, without a quantifier and with one. -/
theorem AddsTo.group {o c : Tok} {ts : List Tok} {v : Int} (ho : o.kind = 3) (hc : c.kind = 4) (hB : Bal ts) (h : AddsTo ts v) (hv : 0 ≤ v) : AddsTo (o :: ts ++ [c]) v := fun n hn => by
  obtain ⟨k, hk0, hk1, fk, hk2⟩ := h.whole
  refine ⟨min 1000000 (n + k), by omega, by omega, fun rest z hr ⟨f, hf⟩ => ⟨max fk f + 1, ?_⟩⟩
  show sizeS (max fk f + 1) (o :: (ts ++ [c] ++ rest)) n = _
  rw [List.append_assoc]
  show sizeS (max fk f + 1) (o :: (ts ++ c :: rest)) n = _
  unfold sizeS
  rw [if_neg (by omega), if_pos ho, scan_close hB hc]
  simp only []
  rw [List.take_left, sizeS_le hk2 (by omega)]
  have hd : (ts ++ c :: rest).drop (ts.length + 1) = rest := by rw [← List.drop_drop, List.drop_left]; rfl
  rw [hd]
  have : behindAtom rest k = (k, rest) := by
    unfold behindAtom
    cases rest with
    | nil => rfl
    | cons q r => simp only []; rw [if_neg (show ¬ q.kind = 6 from hr)]
  simp only [this]
  exact sizeS_le hf (by omega)
theorem AddsTo.groupQ {o c q : Tok} {ts : List Tok} {v w : Int} (ho : o.kind = 3) (hc : c.kind = 4) (h6 : q.kind = 6) (hB : Bal ts) (h : AddsTo ts v) (hw : 0 ≤ w) (hq : ∀ k, 0 ≤ k → min k 301 = min v 301 → 0 ≤ qsize k q.mn q.mx ∧ min (qsize k q.mn q.mx) 301 = min w 301) : AddsTo (o :: ts ++ [c, q]) w := fun n hn => by
  obtain ⟨k, hk0, hk1, fk, hk2⟩ := h.whole
  obtain ⟨hq0, hq1⟩ := hq k hk0 hk1
  refine ⟨min 1000000 (n + qsize k q.mn q.mx), by omega, by omega, fun rest z hr ⟨f, hf⟩ => ⟨max fk f + 1, ?_⟩⟩
  show sizeS (max fk f + 1) (o :: (ts ++ [c, q] ++ rest)) n = _
  rw [List.append_assoc]
  show sizeS (max fk f + 1) (o :: (ts ++ c :: (q :: rest))) n = _
  unfold sizeS
  rw [if_neg (by omega), if_pos ho, scan_close hB hc]
  simp only []
  rw [List.take_left, sizeS_le hk2 (by omega)]
  have hd : (ts ++ c :: (q :: rest)).drop (ts.length + 1) = q :: rest := by rw [← List.drop_drop, List.drop_left]; rfl
  rw [hd]
  have : behindAtom (q :: rest) k = (qsize k q.mn q.mx, rest) := by unfold behindAtom; simp only []; rw [if_pos h6]
  simp only [this]
  exact sizeS_le hf (by omega)
end Ref
end Go.Proofs.YtdhmllobgijggaaGreatDoor
