/- The reader beside the lexer: what an atom's tokens add, with its quantifier. The reader beside the lexer: a term. The reader beside the lexer: terms, alternatives, groups; the whole. The reader beside the lexer: alternatives, groups, the whole. -/
import Derived.Test.YtdhmllobgijggaaGreatDoorKEqBG
import Derived.Test.YtdhmllobgijggaaGreatDoorKEqH
import Derived.Test.YtdhmllobgijggaaGreatDoorKParAF
namespace Go.Proofs.YtdhmllobgijggaaGreatDoor
open Go.RowKit

namespace Eqv
variable {s : ByteArray} {L : List (Int × Int)}
theorem mul_ge {a b : Int} (ha : 1 ≤ a) (hb : 301 ≤ b) : 301 ≤ a * b := by
  have := Int.mul_le_mul_of_nonneg_right ha (show (0 : Int) ≤ b by omega)
  omega
theorem qsize_same {k v mn mx : Int} (hk : 0 ≤ k) (hv0 : 0 ≤ v) (hv1 : v ≤ 301) (h : min k 301 = min v 301) (h0 : 0 ≤ mn) (h1 : -1 ≤ mx) (h2 : mx = -1 ∨ mn ≤ mx) : 0 ≤ Ref.qsize k mn mx ∧ min (Ref.qsize k mn mx) 301 = min (Pro.repS v mn mx) 301 := by
  have hnn : ∀ z : Int, 0 ≤ z → Ref.qsize z mn mx = Pro.repS z mn mx := by
    intro z hz
    unfold Ref.qsize Pro.repS
    by_cases hm : mx = -1
    · rw [if_pos (by omega), if_pos hm]
      by_cases h0' : mn = 0
      · rw [if_pos h0', h0']; rfl
      · rw [if_neg h0', show max mn 1 = mn by omega]
    · rw [if_neg (by omega), if_neg hm]
  have hr0 : 0 ≤ Pro.repS k mn mx := Pro.repS_nn hk h0 h2
  rw [hnn k hk]
  refine ⟨hr0, ?_⟩
  by_cases he : k = v
  · rw [he]
  · have hk1 : 301 ≤ k := by omega
    have hv2 : 301 ≤ v := by omega
    have big : ∀ z : Int, 301 ≤ z → Pro.repS z mn mx = 0 ∧ mn = 0 ∧ mx = 0 ∨ 301 ≤ Pro.repS z mn mx := by
      intro z hz
      unfold Pro.repS
      by_cases hm : mx = -1
      · right
        rw [if_pos hm]
        have := mul_ge (a := max mn 1) (b := z) (by omega) hz
        omega
      · rw [if_neg hm]
        by_cases h0' : mn = 0
        · by_cases h00 : mx = 0
          · left; subst h0'; subst h00; simp
          · right
            have := mul_ge (a := mx - mn) (b := z + 1) (by omega) (by omega)
            rw [h0'] at this ⊢
            omega
        · right
          have := mul_ge (a := mn) (b := z) (by omega) hz
          have h3 : 0 ≤ (mx - mn) * (z + 1) := Int.mul_nonneg (by omega) (by omega)
          omega
    rcases big k hk1 with ⟨a1, a2, a3⟩ | a1 <;> rcases big v hv2 with ⟨b1, b2, b3⟩ | b1
    · rw [a1, b1]
    · rw [a2, a3] at b1; unfold Pro.repS at b1; simp at b1
    · rw [b2, b3] at a1; unfold Pro.repS at a1; simp at a1
    · omega
/-- A token without counts. -/
theorem tokB0 {t : Tok} (h1 : t.mn = 0) (h2 : t.mx = 0) : Ref.TokB t := by unfold Ref.TokB; omega
/-- What an atom's tokens add, alone and with a quantifier behind them. -/
def AtomOK (ts : List Tok) (v : Int) : Prop := Ref.Bal ts ∧ Ref.headKind ts ≠ 6 ∧ ts ≠ [] ∧ Ref.AddsTo ts v ∧ ∀ q : Tok, q.kind = 6 → 0 ≤ q.mn → -1 ≤ q.mx → (q.mx = -1 ∨ q.mn ≤ q.mx) → Ref.AddsTo (ts ++ [q]) (min (Pro.repS v q.mn q.mx) 301)
theorem AtomOK.one {t : Tok} (h1 : t.kind = 1) (hb : Ref.TokB t) : AtomOK [t] 1 := by
  refine ⟨Ref.Bal.one (by omega) (by omega) hb, ?_, by simp, Ref.AddsTo.one (by omega) (by omega), ?_⟩
  · show t.kind ≠ 6; omega
  · intro q h6 a b c
    have hq := qsize_same (k := 1) (v := 1) (by omega) (by omega) (by omega) rfl a b c
    have hr := Pro.repS_nn (z := 1) (by omega) a c
    exact (Ref.AddsTo.oneQ (t := t) (q := q) (by omega) (by omega) h6 hq.1).weak (by omega) hq.1 (by omega)
theorem AtomOK.group {o c : Tok} {ts : List Tok} {v : Int} (ho : o.kind = 3) (hc : c.kind = 4) (hbo : Ref.TokB o) (hbc : Ref.TokB c) (hB : Ref.Bal ts) (h : Ref.AddsTo ts v) (hv0 : 0 ≤ v) (hv1 : v ≤ 301) : AtomOK (o :: ts ++ [c]) v := by
  refine ⟨hB.group ho hc hbo hbc, ?_, by simp, Ref.AddsTo.group ho hc hB h hv0, ?_⟩
  · show o.kind ≠ 6; omega
  · intro q h6 a b e
    have hr := Pro.repS_nn (z := v) hv0 a e
    have := Ref.AddsTo.groupQ (w := min (Pro.repS v q.mn q.mx) 301) ho hc h6 hB h (by omega) (fun k hk hkv => by have := qsize_same hk hv0 hv1 hkv a b e; exact ⟨this.1, by omega⟩)
    rw [show o :: ts ++ [c] ++ [q] = o :: ts ++ [c, q] by simp]
    exact this

/-- The lexer's loop that stands at a fault ends with it. -/
theorem loop_fault {f : Nat} {l : List Tok} {op : Int} {atom : Bool} {st : St} (h : st.e ≠ 0) : ∃ l', Ref.tokensF s f l op atom st = (l', st.e, st.a) := by
  cases f with
  | zero => exact ⟨l, rfl⟩
  | succ f =>
    rw [Ref.tokensF_end (fun hh => h hh.2)]
    refine ⟨l, ?_⟩
    split
    · rw [fail_nz h]
    · rfl
/-- The lexer's loop goes from one place to another, with these tokens. -/
def Goes (s : ByteArray) (L : List (Int × Int)) (f : Nat) (l : List Tok) (op : Int) (atom : Bool) (p : Nat) (o : Pro.Out) (P : List Tok → Prop) : Prop :=
  (o.k ≠ 0 → ∃ l', Ref.tokensF s f l op atom (st0 p) = (l', (o.k : Int), o.p)) ∧
  (o.k = 0 → ∃ ts f' p' atom', Ref.tokensF s f l op atom (st0 p) = Ref.tokensF s f' (l ++ ts) op atom' (st0 p') ∧ Br s L o.n p' ∧ s.size < p' + f' ∧ (atom' = true → Ref.quantB (byteAt s p') = false) ∧ P ts)
/-- A term's tokens. -/
def TermP (v : Int) (ts : List Tok) : Prop := Ref.Bal ts ∧ Ref.AddsTo ts v ∧ Ref.headKind ts ≠ 6
/-- Behind an atom's tokens: its quantifier. -/
theorem quant_step {f : Nat} {l : List Tok} {op : Int} {n p : Nat} {at' : List Tok} {v : Int} (h : Br s L n p) (hf : s.size < p + f) (hA : AtomOK at' v) (hv0 : 0 ≤ v) (hv1 : v ≤ 301) {A : Pro.Out} (hk : A.k = 0) (hn : A.n = n) (hv : A.v = v) :
    Goes s L f (l ++ at') op true p (if (Pro.quantO L (s.size : Nat) A.n).1 = false then A else if (Pro.quantO L (s.size : Nat) A.n).2.1.k ≠ 0 then (Pro.quantO L (s.size : Nat) A.n).2.1 else Pro.good (min (Pro.repS A.v (Pro.quantO L (s.size : Nat) A.n).2.1.v (Pro.quantO L (s.size : Nat) A.n).2.2) 301) (Pro.lazyN L (Pro.quantO L (s.size : Nat) A.n).2.1.n)) (fun ts => ts = [] ∧ (if (Pro.quantO L (s.size : Nat) A.n).1 = false then True else False) ∨ ∃ q : Tok, ts = [q] ∧ Ref.AddsTo (at' ++ [q]) (min (Pro.repS v (Pro.quantO L (s.size : Nat) A.n).2.1.v (Pro.quantO L (s.size : Nat) A.n).2.2) 301) ∧ Ref.Bal [q] ∧ (Pro.quantO L (s.size : Nat) A.n).1 = true) := by
  subst hv
  rw [hn]
  cases hq : Ref.quantB (byteAt s p)
  · have hqn := quant_none h hq
    rw [hqn]
    simp only [if_true]
    exact ⟨fun hh => absurd hk hh, fun _ => ⟨[], f, p, true, by rw [List.append_nil], by rw [hn]; exact h, hf, fun _ => hq, .inl ⟨rfl, trivial⟩⟩⟩
  · obtain ⟨hq1, hqs⟩ := quant_same h hq
    have hqc := Ref.quantB_cases hq
    have hlt : p < s.size := (byteAt_nonneg s p).1 (by omega)
    obtain ⟨f, rfl⟩ : ∃ f', f = f' + 1 := ⟨f - 1, by omega⟩
    have hstep := Ref.tokensF_quant (s := s) (f := f) (l := l ++ at') (op := op) (atom := true) (st := st0 p) ⟨hlt, rfl⟩ ⟨rfl, hq⟩
    rw [if_neg (by simp [hq1])]
    by_cases hk2 : (Pro.quantO L (s.size : Nat) n).2.1.k = 0
    · obtain ⟨a1, a2, a3, a4⟩ := hqs.1 hk2
      have hvb := Pro.quantO_v (L := L) (len := (s.size : Nat)) n hq1 hk2
      rw [if_neg (by simp [hk2])]
      refine ⟨fun hh => absurd rfl hh, fun _ => ⟨[⟨6, false, [], 0, (Ref.quantF s (st0 p)).1, (Ref.quantF s (st0 p)).2.1⟩], f, (Ref.quantF s (st0 p)).2.2.i, false, ?_, a4, ?_, (fun hh => by cases hh), .inr ⟨_, rfl, ?_, Ref.Bal.one (show (6 : Int) ≠ 3 by decide) (show (6 : Int) ≠ 4 by decide) ⟨by show 0 ≤ (Ref.quantF s (st0 p)).1; rw [a1]; exact hvb.1, by show (Ref.quantF s (st0 p)).1 ≤ 100; rw [a1]; exact hvb.2.1, by show -1 ≤ (Ref.quantF s (st0 p)).2.1; rw [a2]; exact hvb.2.2.1, by show (Ref.quantF s (st0 p)).2.1 ≤ 100; rw [a2]; exact hvb.2.2.2.1, by show (Ref.quantF s (st0 p)).2.1 = -1 ∨ (Ref.quantF s (st0 p)).1 ≤ (Ref.quantF s (st0 p)).2.1; rw [a1, a2]; exact hvb.2.2.2.2⟩, hq1⟩⟩⟩
      · rw [hstep, ← a3]
      · have := (Ref.quantF_fine (s := s) (st := st0 p) h.good hq).1
        have hi : (st0 p).i = p := rfl
        omega
      · have := hA.2.2.2.2 ⟨6, false, [], 0, (Ref.quantF s (st0 p)).1, (Ref.quantF s (st0 p)).2.1⟩ rfl (by show 0 ≤ (Ref.quantF s (st0 p)).1; rw [a1]; exact hvb.1) (by show -1 ≤ (Ref.quantF s (st0 p)).2.1; rw [a2]; exact hvb.2.2.1) (by show (Ref.quantF s (st0 p)).2.1 = -1 ∨ (Ref.quantF s (st0 p)).1 ≤ (Ref.quantF s (st0 p)).2.1; rw [a1, a2]; exact hvb.2.2.2.2)
        have e1 : ({ kind := 6, neg := false, parts := [], c := 0, mn := (Ref.quantF s (st0 p)).1, mx := (Ref.quantF s (st0 p)).2.1 } : Tok).mn = (Pro.quantO L (s.size : Nat) n).2.1.v := a1
        have e2 : ({ kind := 6, neg := false, parts := [], c := 0, mn := (Ref.quantF s (st0 p)).1, mx := (Ref.quantF s (st0 p)).2.1 } : Tok).mx = (Pro.quantO L (s.size : Nat) n).2.2 := a2
        rw [e1, e2] at this
        exact this
    · have he := hqs.2 hk2
      rw [if_pos hk2]
      refine ⟨fun _ => ?_, fun hh => absurd hh hk2⟩
      obtain ⟨l', hl⟩ := loop_fault (s := s) (f := f) (l := l ++ at' ++ [⟨6, false, [], 0, (Ref.quantF s (st0 p)).1, (Ref.quantF s (st0 p)).2.1⟩]) (op := op) (atom := false) (st := (Ref.quantF s (st0 p)).2.2) (by rw [he.1]; omega)
      exact ⟨l', by rw [hstep, hl, he.1, he.2]⟩
end Eqv
end Go.Proofs.YtdhmllobgijggaaGreatDoor
namespace Go.Proofs.YtdhmllobgijggaaGreatDoor
open Go.RowKit

namespace Eqv
variable {s : ByteArray} {L : List (Int × Int)}
/-- What a group's reader and the lexer have in common at a depth: the tokens with brackets. -/
def GroupGoes (s : ByteArray) (L : List (Int × Int)) (op : Int) (D : Nat → Pro.Out) : Prop := ∀ (f : Nat) (l : List Tok) (atom : Bool) (n p : Nat), Br s L n p → s.size < p + f → byteAt s p = 40 →
  ((D n).k ≠ 0 → ∃ l', Ref.tokensF s f l op atom (st0 p) = (l', ((D n).k : Int), (D n).p)) ∧
  ((D n).k = 0 → ∃ ts f' p', Ref.tokensF s f l op atom (st0 p) = Ref.tokensF s f' (l ++ ts) op true (st0 p') ∧ Br s L (D n).n p' ∧ s.size < p' + f' ∧ AtomOK ts (D n).v)
theorem no_q {atom : Bool} {p : Nat} (hA : atom = true → Ref.quantB (byteAt s p) = false) : ¬ (atom = true ∧ Ref.quantB (byteAt s (st0 p).i) = true) := fun hh => by
  have e1 := hA hh.1
  have e2 : Ref.quantB (byteAt s p) = true := hh.2
  rw [e1] at e2
  cases e2
/-- A single token of an atom. -/
theorem tok_step {f : Nat} {l : List Tok} {op : Int} {atom : Bool} {p : Nat} (hlt : p < s.size) (hA : atom = true → Ref.quantB (byteAt s p) = false) (h40 : byteAt s p ≠ 40) (hop : 0 ≤ op) (h1 : (Ref.tokenF s (st0 p)).1.kind = 1) :
    Ref.tokensF s (f + 1) l op atom (st0 p) = Ref.tokensF s f (l ++ [(Ref.tokenF s (st0 p)).1]) op true (Ref.tokenF s (st0 p)).2 := by
  rw [Ref.tokensF_tok (st := st0 p) ⟨hlt, rfl⟩ (no_q hA) (fun hh => h40 hh.1), h1]
  have e1 : Ref.turnO 1 op = op := by unfold Ref.turnO; simp
  rw [e1, if_neg (by omega)]
  rfl
theorem out_ne {o : Pro.Out} {v : Int} {st : St} (h : Same s L o v st) (hk : o.k ≠ 0) : st.e ≠ 0 := by rw [(h.2 hk).1]; omega
theorem atom_goes {op : Int} {D : Nat → Pro.Out} (hD : GroupGoes s L op D) (hop : 0 ≤ op) {f : Nat} {l : List Tok} {atom : Bool} {n p : Nat} (h : Br s L n p) (hf : s.size < p + f) (hlt : p < s.size) (hA : atom = true → Ref.quantB (byteAt s p) = false) (hstop : byteAt s p ≠ 124 ∧ byteAt s p ≠ 41) (has : Pro.asN L n = 0) :
    ((Pro.atomO L (s.size : Nat) D n).k ≠ 0 → ∃ l', Ref.tokensF s f l op atom (st0 p) = (l', ((Pro.atomO L (s.size : Nat) D n).k : Int), (Pro.atomO L (s.size : Nat) D n).p)) ∧
    ((Pro.atomO L (s.size : Nat) D n).k = 0 → ∃ ts f' p', Ref.tokensF s f l op atom (st0 p) = Ref.tokensF s f' (l ++ ts) op true (st0 p') ∧ Br s L (Pro.atomO L (s.size : Nat) D n).n p' ∧ s.size < p' + f' ∧ AtomOK ts (Pro.atomO L (s.size : Nat) D n).v) := by
  have hi : (st0 p).i = p := rfl
  have hb0 := (byteAt_nonneg s p).2 hlt
  have e94 := h.eqv 94 (by omega)
  have e36 := h.eqv 36 (by omega)
  have e92 := h.eqv 92 (by omega)
  have e40 := h.eqv 40 (by omega)
  have e91 := h.eqv 91 (by omega)
  have n94 : byteAt s p ≠ 94 ∧ byteAt s p ≠ 36 := by
    unfold Pro.asN at has
    by_cases hh : Pro.letAt L n = 94 ∨ Pro.letAt L n = 36
    · rw [if_pos hh] at has; cases has
    · exact ⟨fun e => hh (.inl (e94.2 e)), fun e => hh (.inr (e36.2 e))⟩
  have nbB : ¬ (byteAt s p = 92 ∧ (byteAt s (p + 1) = 98 ∨ byteAt s (p + 1) = 66)) := by
    rintro ⟨k1, k2⟩
    have h1 := h.go k1 (by omega) (by omega)
    unfold Pro.asN at has
    rw [if_neg (by rw [e92.2 k1]; omega), if_pos ⟨e92.2 k1, by rcases k2 with k | k; exact .inl ((h1.eqv 98 (by omega)).2 k); exact .inr ((h1.eqv 66 (by omega)).2 k)⟩] at has
    cases has
  have hw : Pro.wrongL (Pro.letAt L n) = Ref.wrongB (byteAt s p) := by
    unfold Pro.wrongL Ref.wrongB
    rcases h.alike with ⟨e, _⟩ | ⟨a, b⟩
    · rw [e]
    · have q : ∀ k : Int, k < 128 → (Pro.letAt L n == k) = false ∧ (byteAt s p == k) = false := fun k hk => ⟨by simp; omega, by simp; omega⟩
      rw [(q 42 (by omega)).1, (q 43 (by omega)).1, (q 63 (by omega)).1, (q 123 (by omega)).1, (q 125 (by omega)).1, (q 93 (by omega)).1, (q 42 (by omega)).2, (q 43 (by omega)).2, (q 63 (by omega)).2, (q 123 (by omega)).2, (q 125 (by omega)).2, (q 93 (by omega)).2]
  obtain ⟨f, rfl⟩ : ∃ f', f = f' + 1 := ⟨f - 1, by omega⟩
  by_cases k40 : byteAt s p = 40
  · have hwf : Pro.wrongL (Pro.letAt L n) = false := by rw [hw, k40]; decide
    have e : Pro.atomO L (s.size : Nat) D n = D n := by unfold Pro.atomO; rw [if_neg (by simp [hwf]), if_pos (e40.2 k40)]
    rw [e]
    exact hD (f + 1) l atom n p h hf k40
  · have m40 : ¬ Pro.letAt L n = 40 := fun hh => k40 (e40.1 hh)
    cases hwb : Ref.wrongB (byteAt s p)
    · have hwf : ¬ Pro.wrongL (Pro.letAt L n) = true := by rw [hw, hwb]; simp
      by_cases k91 : byteAt s p = 91
      · have h1 := h.go k91 (by omega) (by omega)
        have e : Pro.atomO L (s.size : Nat) D n = Pro.one (Pro.classP L (s.size : Nat) n) := by unfold Pro.atomO; rw [if_neg hwf, if_neg m40, if_pos (e91.2 k91)]
        have et : Ref.tokenF s (st0 p) = (⟨1, Ref.notB s (st0 (p + 1)), (Ref.classR s (st0 (p + 1))).1, 0, 0, 0⟩, (Ref.classR s (st0 (p + 1))).2) := by
          unfold Ref.tokenF; rw [hi, if_neg (by omega), if_neg nbB, if_neg (by omega), if_neg (by omega), if_pos k91, go0]
        have hst := tok_step (f := f) (l := l) hlt hA k40 hop (by rw [et])
        have hcs : Same s L (Pro.classP L (s.size : Nat) n) 1 (Ref.classR s (st0 (p + 1))).2 := by
          unfold Pro.classP Ref.classR Ref.classSt Ref.notB
          have hi1 : (st0 (p + 1)).i = p + 1 := rfl
          rw [hi1]
          by_cases k94 : byteAt s (p + 1) = 94
          · have h2 := h1.go k94 (by omega) (by omega)
            have := h2.le
            have := h2.good.le
            rw [if_pos ((h1.eqv 94 (by omega)).2 k94), if_pos (by simp [k94]), go0]
            exact class_same _ _ [] (n + 2) (p + 1 + 1) h2 (by omega) (by show s.size < p + 1 + 1 + (s.size + 1 - (p + 1 + 1)); omega)
          · have := h1.le
            have := h1.good.le
            rw [if_neg (fun hh => k94 ((h1.eqv 94 (by omega)).1 hh)), if_neg (by simp [k94])]
            exact class_same _ _ [] (n + 1) (p + 1) h1 (by omega) (by show s.size < p + 1 + (s.size + 1 - (p + 1)); omega)
        rw [e, hst, et, Pro.one_k, Pro.one_n]
        by_cases hk : (Pro.classP L (s.size : Nat) n).k = 0
        · obtain ⟨a1, a2, _, a4⟩ := hcs.1 hk
          refine ⟨fun hh => absurd hk hh, fun _ => ⟨_, f, (Ref.classR s (st0 (p + 1))).2.i, by rw [← st_eta a1 a2], a4, ?_, by rw [Pro.one_v _ hk]; exact AtomOK.one rfl (tokB0 rfl rfl)⟩⟩
          have hgt : p < (Ref.classR s (st0 (p + 1))).2.i := by
            by_cases hh : p < (Ref.classR s (st0 (p + 1))).2.i
            · exact hh
            · exfalso
              have := br_mono h a4 (by omega)
              have := Pro.classP_in (L := L) (len := (s.size : Nat)) n (h.lt.2 hlt)
              omega
          omega
        · have he := hcs.2 hk
          obtain ⟨l', hl⟩ := loop_fault (s := s) (f := f) (l := l ++ [⟨1, Ref.notB s (st0 (p + 1)), (Ref.classR s (st0 (p + 1))).1, 0, 0, 0⟩]) (op := op) (atom := true) (out_ne hcs hk)
          have e1 : Pro.one (Pro.classP L (s.size : Nat) n) = Pro.classP L (s.size : Nat) n := by unfold Pro.one; rw [if_neg hk]
          exact ⟨fun _ => ⟨l', by rw [hl, he.1, he.2, e1]⟩, fun hh => absurd hh hk⟩
      · by_cases k92 : byteAt s p = 92
        · have e : Pro.atomO L (s.size : Nat) D n = Pro.one (Pro.escO L (s.size : Nat) n) := by unfold Pro.atomO; rw [if_neg hwf, if_neg m40, if_neg (fun hh => k91 (e91.1 hh)), if_pos (e92.2 k92)]
          have et : Ref.tokenF s (st0 p) = (⟨1, false, [(Ref.escapeF s false (st0 p)).1], 0, 0, 0⟩, (Ref.escapeF s false (st0 p)).2.2) := by
            unfold Ref.tokenF; rw [hi, if_neg (by omega), if_neg nbB, if_neg (by omega), if_neg (by omega), if_neg k91, if_pos k92]
          have hst := tok_step (f := f) (l := l) hlt hA k40 hop (by rw [et])
          have hcs := (esc_same false h k92 (fun hh => by cases hh)).1
          rw [e, hst, et, Pro.one_k, Pro.one_n]
          by_cases hk : (Pro.escO L (s.size : Nat) n).k = 0
          · obtain ⟨a1, a2, _, a4⟩ := hcs.1 hk
            refine ⟨fun hh => absurd hk hh, fun _ => ⟨_, f, (Ref.escapeF s false (st0 p)).2.2.i, by rw [← st_eta a1 a2], a4, ?_, by rw [Pro.one_v _ hk]; exact AtomOK.one rfl (tokB0 rfl rfl)⟩⟩
            have hgt : p < (Ref.escapeF s false (st0 p)).2.2.i := by
              by_cases hh : p < (Ref.escapeF s false (st0 p)).2.2.i
              · exact hh
              · exfalso
                have := br_mono h a4 (by omega)
                have := Pro.escO_in (L := L) (len := (s.size : Nat)) n (h.lt.2 hlt)
                omega
            omega
          · have he := hcs.2 hk
            obtain ⟨l', hl⟩ := loop_fault (s := s) (f := f) (l := l ++ [⟨1, false, [(Ref.escapeF s false (st0 p)).1], 0, 0, 0⟩]) (op := op) (atom := true) (out_ne hcs hk)
            have e1 : Pro.one (Pro.escO L (s.size : Nat) n) = Pro.escO L (s.size : Nat) n := by unfold Pro.one; rw [if_neg hk]
            exact ⟨fun _ => ⟨l', by rw [hl, he.1, he.2, e1]⟩, fun hh => absurd hh hk⟩
        · have e : Pro.atomO L (s.size : Nat) D n = Pro.good 1 (n + 1) := by unfold Pro.atomO; rw [if_neg hwf, if_neg m40, if_neg (fun hh => k91 (e91.1 hh)), if_neg (fun hh => k92 (e92.1 hh))]
          rw [e]
          refine ⟨fun hh => absurd rfl hh, fun _ => ?_⟩
          by_cases k46 : byteAt s p = 46
          · have et : Ref.tokenF s (st0 p) = (⟨1, true, [⟨false, [(10, 10), (13, 13), (8232, 8233)]⟩], 0, 0, 0⟩, st0 (p + 1)) := by
              unfold Ref.tokenF; rw [hi, if_neg (by omega), if_neg nbB, if_neg (by omega), if_pos k46, go0]
            have hst := tok_step (f := f) (l := l) hlt hA k40 hop (by rw [et])
            rw [et] at hst
            exact ⟨_, f, p + 1, hst, h.go k46 (by omega) (by omega), by omega, AtomOK.one rfl (tokB0 rfl rfl)⟩
          · obtain ⟨k, c, ho, hg, hn⟩ := h.step hlt
            have et : Ref.tokenF s (st0 p) = (⟨1, false, [⟨false, [(c, c)]⟩], 0, 0, 0⟩, st0 (p + k)) := by
              unfold Ref.tokenF; rw [hi, if_neg (by omega), if_neg nbB, if_neg (by omega), if_neg k46, if_neg k91, if_neg k92, if_neg k40, if_neg hstop.2, if_neg (by simp [hwb]), ho]; rfl
            have hst := tok_step (f := f) (l := l) hlt hA k40 hop (by rw [et])
            rw [et] at hst
            have := Ref.oneF_bd ho
            exact ⟨_, f, p + k, hst, hn, by omega, AtomOK.one rfl (tokB0 rfl rfl)⟩
    · have e : Pro.atomO L (s.size : Nat) D n = Pro.bad 3 (Pro.placeAt L (s.size : Nat) n) n := by unfold Pro.atomO; rw [if_pos (by rw [hw]; exact hwb)]
      have hwc : byteAt s p = 42 ∨ byteAt s p = 43 ∨ byteAt s p = 63 ∨ byteAt s p = 123 ∨ byteAt s p = 125 ∨ byteAt s p = 93 := by unfold Ref.wrongB at hwb; simp at hwb; omega
      have et : Ref.tokenF s (st0 p) = (⟨0, false, [], 0, 0, 0⟩, ⟨p, 3, p⟩) := by
        unfold Ref.tokenF; rw [hi, if_neg (by omega), if_neg nbB, if_neg (by omega), if_neg (by omega), if_neg (by omega), if_neg (by omega), if_neg k40, if_neg hstop.2, if_pos hwb, fail0]
      rw [e]
      refine ⟨fun _ => ?_, fun hh => absurd hh (by simp [Pro.bad])⟩
      rw [Ref.tokensF_tok (st := st0 p) ⟨hlt, rfl⟩ (no_q hA) (fun hh => k40 hh.1), et]
      have e1 : Ref.turnO 0 op = op := by unfold Ref.turnO; simp
      simp only []
      rw [e1, if_neg (by omega)]
      obtain ⟨l', hl⟩ := loop_fault (s := s) (f := f) (l := l ++ [⟨0, false, [], 0, 0, 0⟩]) (op := op) (atom := ((0 : Int) == 1) || ((0 : Int) == 4)) (st := ⟨p, 3, p⟩) (show (3 : Int) ≠ 0 by decide)
      exact ⟨l', by rw [hl]; show (l', (3 : Int), (p : Int)) = (l', ((3 : Nat) : Int), Pro.placeAt L (s.size : Nat) n); rw [h.place]; rfl⟩
end Eqv
end Go.Proofs.YtdhmllobgijggaaGreatDoor
namespace Go.Proofs.YtdhmllobgijggaaGreatDoor
open Go.RowKit

namespace Eqv
variable {s : ByteArray} {L : List (Int × Int)}
theorem term_goes {op : Int} {D : Nat → Pro.Out} (hD : GroupGoes s L op D) (hDO : Pro.DOK L D) (hop : 0 ≤ op) {f : Nat} {l : List Tok} {atom : Bool} {n p : Nat} (h : Br s L n p) (hf : s.size < p + f) (hlt : p < s.size) (hA : atom = true → Ref.quantB (byteAt s p) = false) (hstop : byteAt s p ≠ 124 ∧ byteAt s p ≠ 41) :
    Goes s L f l op atom p (Pro.termO L (s.size : Nat) D n) (TermP (Pro.termO L (s.size : Nat) D n).v) := by
  have hi : (st0 p).i = p := rfl
  have hb0 := (byteAt_nonneg s p).2 hlt
  by_cases has : Pro.asN L n = 0
  · obtain ⟨g1, g2⟩ := atom_goes hD hop (l := l) h hf hlt hA hstop has
    have hin := Pro.atomO_in (len := (s.size : Nat)) hDO n (h.lt.2 hlt)
    by_cases hk : (Pro.atomO L (s.size : Nat) D n).k = 0
    · obtain ⟨ts, f1, p1, e1, b1, hf1, hok⟩ := g2 hk
      have hvb := hin.2.2 hk
      have hq := quant_step (s := s) (L := L) (l := l) (op := op) b1 hf1 hok hvb.2.1 hvb.2.2 hk rfl rfl
      have et : Pro.termO L (s.size : Nat) D n = (if (Pro.quantO L (s.size : Nat) (Pro.atomO L (s.size : Nat) D n).n).1 = false then Pro.atomO L (s.size : Nat) D n else if (Pro.quantO L (s.size : Nat) (Pro.atomO L (s.size : Nat) D n).n).2.1.k ≠ 0 then (Pro.quantO L (s.size : Nat) (Pro.atomO L (s.size : Nat) D n).n).2.1 else Pro.good (min (Pro.repS (Pro.atomO L (s.size : Nat) D n).v (Pro.quantO L (s.size : Nat) (Pro.atomO L (s.size : Nat) D n).n).2.1.v (Pro.quantO L (s.size : Nat) (Pro.atomO L (s.size : Nat) D n).n).2.2) 301) (Pro.lazyN L (Pro.quantO L (s.size : Nat) (Pro.atomO L (s.size : Nat) D n).n).2.1.n)) := by
        unfold Pro.termO; rw [if_neg (by simp [has]), if_neg (by simp [hk])]
      rw [et]
      refine ⟨fun hh => by rw [e1]; exact hq.1 hh, fun hh => ?_⟩
      obtain ⟨us, f2, p2, at2, e2, b2, hf2, ha2, hP⟩ := hq.2 hh
      refine ⟨ts ++ us, f2, p2, at2, by rw [e1, e2, List.append_assoc], b2, hf2, ha2, ?_⟩
      rcases hP with ⟨rfl, hq0⟩ | ⟨q, rfl, hadd, hbq, hq1⟩
      · have hq0' : (Pro.quantO L (s.size : Nat) (Pro.atomO L (s.size : Nat) D n).n).1 = false := by
          by_cases hx : (Pro.quantO L (s.size : Nat) (Pro.atomO L (s.size : Nat) D n).n).1 = false
          · exact hx
          · rw [if_neg hx] at hq0; exact hq0.elim
        rw [if_pos hq0', List.append_nil]
        exact ⟨hok.1, hok.2.2.2.1, hok.2.1⟩
      · have hk2 : ¬ (Pro.quantO L (s.size : Nat) (Pro.atomO L (s.size : Nat) D n).n).2.1.k ≠ 0 := fun hx => by
          rw [if_neg (by simp [hq1]), if_pos hx] at hh
          exact hx hh
        rw [if_neg (by simp [hq1]), if_neg hk2]
        refine ⟨hok.1.append hbq, hadd, ?_⟩
        have h2 := hok.2.1
        have h3 := hok.2.2.1
        cases ts with
        | nil => exact absurd rfl h3
        | cons t r => exact h2
    · have et : Pro.termO L (s.size : Nat) D n = Pro.atomO L (s.size : Nat) D n := by unfold Pro.termO; rw [if_neg (by simp [has]), if_pos hk]
      rw [et]
      exact ⟨g1, fun hh => absurd hh hk⟩
  · have et : Pro.termO L (s.size : Nat) D n = Pro.good 1 (n + Pro.asN L n) := by unfold Pro.termO; rw [if_pos has]
    rw [et]
    refine ⟨fun hh => absurd rfl hh, fun _ => ?_⟩
    obtain ⟨f, rfl⟩ : ∃ f', f = f' + 1 := ⟨f - 1, by omega⟩
    have hs : ∃ t k, Ref.tokenF s (st0 p) = (t, st0 (p + k)) ∧ (t.kind = 2 ∧ Ref.TokB t) ∧ Br s L (n + Pro.asN L n) (p + k) ∧ 1 ≤ k ∧ byteAt s p ≠ 40 := by
      unfold Pro.asN at has ⊢
      by_cases h1 : Pro.letAt L n = 94 ∨ Pro.letAt L n = 36
      · rw [if_pos h1]
        have h1' : byteAt s p = 94 ∨ byteAt s p = 36 := by rcases h1 with k | k; exact .inl ((h.eqv 94 (by omega)).1 k); exact .inr ((h.eqv 36 (by omega)).1 k)
        refine ⟨⟨2, false, [], byteAt s p, 0, 0⟩, 1, ?_, ⟨rfl, tokB0 rfl rfl⟩, h.next (by omega) (by omega), by omega, by omega⟩
        unfold Ref.tokenF; rw [hi, if_pos h1', go0]
      · rw [if_neg h1] at has ⊢
        by_cases h2 : Pro.letAt L n = 92 ∧ (Pro.letAt L (n + 1) = 98 ∨ Pro.letAt L (n + 1) = 66)
        · rw [if_pos h2]
          have k1 := (h.eqv 92 (by omega)).1 h2.1
          have hb := h.go k1 (by omega) (by omega)
          have k2 : byteAt s (p + 1) = 98 ∨ byteAt s (p + 1) = 66 := by rcases h2.2 with k | k; exact .inl ((hb.eqv 98 (by omega)).1 k); exact .inr ((hb.eqv 66 (by omega)).1 k)
          refine ⟨⟨2, false, [], byteAt s (p + 1), 0, 0⟩, 2, ?_, ⟨rfl, tokB0 rfl rfl⟩, hb.next (by omega) (by omega), by omega, by omega⟩
          unfold Ref.tokenF; rw [hi, if_neg (by omega), if_pos ⟨k1, k2⟩, go0]
        · rw [if_neg h2] at has; exact absurd rfl has
    obtain ⟨t, k, et2, ⟨hk2, htb⟩, hb, hk1, h40⟩ := hs
    refine ⟨[t], f, p + k, false, ?_, hb, by omega, (fun hh => by cases hh), Ref.Bal.one (by omega) (by omega) htb, Ref.AddsTo.one (by omega) (by omega), by show t.kind ≠ 6; omega⟩
    rw [Ref.tokensF_tok (st := st0 p) ⟨hlt, rfl⟩ (no_q hA) (fun hh => h40 hh.1), et2]
    simp only []
    rw [hk2]
    have e1 : Ref.turnO 2 op = op := by unfold Ref.turnO; simp
    rw [e1, if_neg (by omega)]
    rfl

theorem stop_same {n p : Nat} (h : Br s L n p) : Pro.stopB L n = true ↔ (¬ p < s.size ∨ byteAt s p = 124 ∨ byteAt s p = 41) := by
  have e1 := h.eqv 124 (by omega)
  have e2 := h.eqv 41 (by omega)
  have e3 := h.lt
  unfold Pro.stopB
  simp only [Bool.or_eq_true, decide_eq_true_eq]
  constructor
  · rintro ((k | k) | k)
    · exact .inl (fun hh => by have := e3.2 hh; omega)
    · exact .inr (.inl (e1.1 k))
    · exact .inr (.inr (e2.1 k))
  · rintro (k | k | k)
    · exact .inl (.inl (Nat.le_of_not_lt (fun hh => k (e3.1 hh))))
    · exact .inl (.inr (e1.2 k))
    · exact .inr (e2.2 k)
theorem terms_goes {op : Int} {D : Nat → Pro.Out} (hD : GroupGoes s L op D) (hDO : Pro.DOK L D) (hop : 0 ≤ op) : ∀ (g f : Nat) (l : List Tok) (v : Int) (atom : Bool) (n p : Nat), Br s L n p → s.size < p + f → L.length < n + g → (atom = true → Ref.quantB (byteAt s p) = false) → 0 ≤ v → v ≤ 301 →
    Goes s L f l op atom p (Pro.termsO L (s.size : Nat) D g v n) (fun ts => Ref.Bal ts ∧ Ref.headKind ts ≠ 6 ∧ ∀ us, Ref.AddsTo us v → Ref.AddsTo (us ++ ts) (Pro.termsO L (s.size : Nat) D g v n).v) ∧ ((Pro.termsO L (s.size : Nat) D g v n).k = 0 → Pro.stopB L (Pro.termsO L (s.size : Nat) D g v n).n = true)
  | 0, f, l, v, atom, n, p, h, hf, hg, hA, hv0, hv1 => by have := h.le; omega
  | g + 1, f, l, v, atom, n, p, h, hf, hg, hA, hv0, hv1 => by
    simp only [Pro.termsO]
    by_cases hs : Pro.stopB L n = true
    · rw [if_pos hs]
      exact ⟨⟨fun hh => absurd rfl hh, fun _ => ⟨[], f, p, atom, by rw [List.append_nil], h, hf, hA, Ref.Bal.nil, by decide, fun us hu => by rw [List.append_nil]; exact hu⟩⟩, fun _ => hs⟩
    · rw [if_neg hs]
      have hns := fun hh => hs ((stop_same h).2 hh)
      have hlt : p < s.size := Classical.byContradiction fun hh => hns (.inl hh)
      have ht := term_goes hD hDO hop (l := l) h hf hlt hA ⟨fun hh => hns (.inr (.inl hh)), fun hh => hns (.inr (.inr hh))⟩
      have hin := Pro.termO_in (len := (s.size : Nat)) hDO n (h.lt.2 hlt)
      by_cases hk : (Pro.termO L (s.size : Nat) D n).k = 0
      · rw [if_neg (by simp [hk])]
        obtain ⟨ts, f1, p1, at1, e1, b1, hf1, ha1, hB, hadd, hh6⟩ := ht.2 hk
        have hvb := hin.2.2 hk
        obtain ⟨r1, r2⟩ := terms_goes hD hDO hop g f1 (l ++ ts) (min (v + (Pro.termO L (s.size : Nat) D n).v) 301) at1 _ p1 b1 hf1 (by omega) ha1 (by omega) (by omega)
        refine ⟨⟨fun hh => by rw [e1]; exact r1.1 hh, fun hh => ?_⟩, r2⟩
        obtain ⟨us, f2, p2, at2, e2, b2, hf2, ha2, hB2, h62, hadd2⟩ := r1.2 hh
        refine ⟨ts ++ us, f2, p2, at2, by rw [e1, e2, List.append_assoc], b2, hf2, ha2, hB.append hB2, ?_, fun ws hw => ?_⟩
        · cases ts with
          | nil => exact h62
          | cons t r => exact hh6
        · rw [← List.append_assoc]
          exact hadd2 (ws ++ ts) (hw.append hadd hv0 hvb.2.1 hh6)
      · rw [if_pos hk]
        exact ⟨⟨ht.1, fun hh => absurd hh hk⟩, fun hh => absurd hh hk⟩
end Eqv
end Go.Proofs.YtdhmllobgijggaaGreatDoor
namespace Go.Proofs.YtdhmllobgijggaaGreatDoor
open Go.RowKit

namespace Eqv
variable {s : ByteArray} {L : List (Int × Int)}
theorem alt_goes {op : Int} {D : Nat → Pro.Out} (hD : GroupGoes s L op D) (hDO : Pro.DOK L D) (hop : 0 ≤ op) : ∀ (g f : Nat) (l : List Tok) (zs : List Int) (n p : Nat), Br s L n p → s.size < p + f → L.length < n + g → (∀ z ∈ zs, 0 ≤ z) →
    Goes s L f l op false p (Pro.altO L (s.size : Nat) D g zs n) (fun ts => Ref.Bal ts ∧ Ref.headKind ts ≠ 6 ∧ ∀ us, Ref.AddsTo us (min (Pro.sumS 0 zs + zs.length) 301) → Ref.AddsTo (us ++ ts) (Pro.altO L (s.size : Nat) D g zs n).v) ∧ ((Pro.altO L (s.size : Nat) D g zs n).k = 0 → Pro.stopB L (Pro.altO L (s.size : Nat) D g zs n).n = true ∧ Pro.letAt L (Pro.altO L (s.size : Nat) D g zs n).n ≠ 124)
  | 0, f, l, zs, n, p, h, hf, hg, hz => by have := h.le; omega
  | g + 1, f, l, zs, n, p, h, hf, hg, hz => by
    have hle := h.le
    have hsb := Pro.sumS_bd zs 0 (by omega) (by omega) hz
    obtain ⟨t1, t2⟩ := terms_goes hD hDO hop (L.length + 1 - n) f l 0 false n p h hf (by omega) (fun hh => by cases hh) (by omega) (by omega)
    have htin := Pro.termsP_in (len := (s.size : Nat)) hDO n hle
    have e0 : Pro.termsP L (s.size : Nat) D n = Pro.termsO L (s.size : Nat) D (L.length + 1 - n) 0 n := rfl
    rw [← e0] at t1 t2
    simp only [Pro.altO]
    by_cases hk : (Pro.termsP L (s.size : Nat) D n).k = 0
    · rw [if_neg (by simp [hk])]
      obtain ⟨ts, f1, p1, at1, e1, b1, hf1, ha1, hB, h6, hadd⟩ := t1.2 hk
      have hstop := t2 hk
      have hts : Ref.AddsTo ts (Pro.termsP L (s.size : Nat) D n).v := hadd [] Ref.AddsTo.nil
      have hvb := htin.2.2 hk
      have happ := Pro.sumS_append zs 0 (Pro.termsP L (s.size : Nat) D n).v
      by_cases hbar : Pro.letAt L (Pro.termsP L (s.size : Nat) D n).n = 124
      · rw [if_pos hbar]
        have hb := (b1.eqv 124 (by omega)).1 hbar
        have hlt1 : p1 < s.size := (byteAt_nonneg s p1).1 (by omega)
        have b2 := b1.go hb (by omega) (by omega)
        obtain ⟨f1, rfl⟩ : ∃ f', f1 = f' + 1 := ⟨f1 - 1, by omega⟩
        have et : Ref.tokenF s (st0 p1) = (⟨5, false, [], 0, 0, 0⟩, st0 (p1 + 1)) := by
          have hi : (st0 p1).i = p1 := rfl
          unfold Ref.tokenF; rw [hi, if_neg (by omega), if_neg (by omega), if_pos hb, go0]
        have hst : Ref.tokensF s (f1 + 1) (l ++ ts) op at1 (st0 p1) = Ref.tokensF s f1 (l ++ ts ++ [⟨5, false, [], 0, 0, 0⟩]) op false (st0 (p1 + 1)) := by
          rw [Ref.tokensF_tok (st := st0 p1) ⟨hlt1, rfl⟩ (no_q ha1) (fun hh => by have : byteAt s p1 = 40 := hh.1; omega), et]
          simp only []
          have e5 : Ref.turnO 5 op = op := by unfold Ref.turnO; simp
          rw [e5, if_neg (by omega)]
          rfl
        have hz' : ∀ z ∈ zs ++ [(Pro.termsP L (s.size : Nat) D n).v], 0 ≤ z := by
          intro z hzm
          rcases List.mem_append.1 hzm with hm | hm
          · exact hz z hm
          · simp at hm; omega
        obtain ⟨r1, r2⟩ := alt_goes hD hDO hop g f1 (l ++ ts ++ [⟨5, false, [], 0, 0, 0⟩]) (zs ++ [(Pro.termsP L (s.size : Nat) D n).v]) _ (p1 + 1) b2 (by omega) (by omega) hz'
        refine ⟨⟨fun hh => by rw [e1, hst]; exact r1.1 hh, fun hh => ?_⟩, r2⟩
        obtain ⟨us, f2, p2, at2, e2, b3, hf2, ha2, hB2, h62, hadd2⟩ := r1.2 hh
        refine ⟨ts ++ [⟨5, false, [], 0, 0, 0⟩] ++ us, f2, p2, at2, by rw [e1, hst, e2]; simp only [List.append_assoc], b3, hf2, ha2, (hB.append (Ref.Bal.one (show (5 : Int) ≠ 3 by decide) (show (5 : Int) ≠ 4 by decide) (tokB0 rfl rfl))).append hB2, ?_, fun ws hw => ?_⟩
        · cases ts with
          | nil => exact (show (5 : Int) ≠ 6 by decide)
          | cons t r => exact h6
        · rw [← List.append_assoc, ← List.append_assoc]
          refine hadd2 _ ?_
          have h1 := hw.append hts (by omega) hvb.1 h6
          have h2 := h1.append (Ref.AddsTo.bar (t := ⟨5, false, [], 0, 0, 0⟩) rfl) (by omega) (by omega) (show (5 : Int) ≠ 6 by decide)
          refine h2.weak ?_ (by omega) ?_
          · rw [happ, List.length_append]; simp only [List.length_cons, List.length_nil]; omega
          · rw [happ]; omega
      · rw [if_neg hbar]
        refine ⟨⟨fun hh => absurd rfl hh, fun _ => ⟨ts, f1, p1, at1, e1, b1, hf1, ha1, hB, h6, fun ws hw => ?_⟩⟩, fun _ => ⟨hstop, hbar⟩⟩
        have h1 := hw.append hts (by omega) hvb.1 h6
        refine h1.weak ?_ (by omega) ?_
        · show min (min (min (Pro.sumS 0 zs + zs.length) 301 + _) 301) 301 = min (min (Pro.sumS 0 (zs ++ [_]) + ((zs.length : Int) + 1) - 1) 301) 301
          rw [happ]; omega
        · show 0 ≤ min (Pro.sumS 0 (zs ++ [_]) + ((zs.length : Int) + 1) - 1) 301
          rw [happ]; omega
    · rw [if_pos hk]
      exact ⟨⟨t1.1, fun hh => absurd hh hk⟩, fun hh => absurd hh hk⟩

theorem group_zero : GroupGoes s L 10 (Pro.deepO L (s.size : Nat) 0) := by
  intro f l atom n p h hf hb
  have hlt : p < s.size := (byteAt_nonneg s p).1 (by omega)
  obtain ⟨f, rfl⟩ : ∃ f', f = f' + 1 := ⟨f - 1, by omega⟩
  refine ⟨fun _ => ⟨[], ?_⟩, fun hh => absurd hh (by simp [Pro.deepO, Pro.bad])⟩
  rw [Ref.tokensF_deep (st := st0 p) ⟨hlt, rfl⟩ (fun hh => by have : Ref.quantB (byteAt s p) = true := hh.2; rw [hb] at this; exact absurd this (by decide)) ⟨hb, rfl⟩]
  show ([], (7 : Int), (p : Int)) = ([], ((7 : Nat) : Int), Pro.placeAt L (s.size : Nat) n)
  rw [h.place]; rfl
theorem group_succ {op : Int} {r : Nat} (hop : 0 ≤ op) (h10 : op < 10) (hD : GroupGoes s L (op + 1) (Pro.deepO L (s.size : Nat) r)) : GroupGoes s L op (Pro.deepO L (s.size : Nat) (r + 1)) := by
  intro f l atom n p h hf hb
  have hlt : p < s.size := (byteAt_nonneg s p).1 (by omega)
  have hnl := h.lt.2 hlt
  obtain ⟨f, rfl⟩ : ∃ f', f = f' + 1 := ⟨f - 1, by omega⟩
  have hi : (st0 p).i = p := rfl
  have et : Ref.tokenF s (st0 p) = (⟨3, false, [], 0, 0, 0⟩, Ref.openF s (st0 p)) := by
    unfold Ref.tokenF; rw [hi, if_neg (by omega), if_neg (by omega), if_neg (by omega), if_neg (by omega), if_neg (by omega), if_neg (by omega), if_pos hb]
  have hnq : ¬ (atom = true ∧ Ref.quantB (byteAt s (st0 p).i) = true) := fun hh => by have : Ref.quantB (byteAt s p) = true := hh.2; rw [hb] at this; exact absurd this (by decide)
  have hst : Ref.tokensF s (f + 1) l op atom (st0 p) = Ref.tokensF s f (l ++ [⟨3, false, [], 0, 0, 0⟩]) (op + 1) false (Ref.openF s (st0 p)) := by
    rw [Ref.tokensF_tok (st := st0 p) ⟨hlt, rfl⟩ hnq (fun hh => by have := hh.2; omega), et]
    simp only []
    have e3 : Ref.turnO 3 op = op + 1 := by unfold Ref.turnO; simp
    rw [e3, if_neg (by omega)]
    rfl
  have hos := open_same h hb
  have hoi := Pro.openO_in (L := L) (len := (s.size : Nat)) n hnl
  rw [hst]
  simp only [Pro.deepO]
  unfold Pro.groupO
  by_cases hk1 : (Pro.openO L (s.size : Nat) n).k = 0
  · obtain ⟨a1, a2, _, b1⟩ := hos.1 hk1
    rw [if_neg (by simp [hk1]), st_eta a1 a2]
    have hgt : p < (Ref.openF s (st0 p)).i := by
      by_cases hh : p < (Ref.openF s (st0 p)).i
      · exact hh
      · exfalso
        have := br_mono h b1 (by omega)
        omega
    have hble := b1.le
    obtain ⟨r1, r2⟩ := alt_goes hD (Pro.deepO_in r) (by omega) (L.length + 1 - (Pro.openO L (s.size : Nat) n).n) f (l ++ [⟨3, false, [], 0, 0, 0⟩]) [] (Pro.openO L (s.size : Nat) n).n _ b1 (by omega) (by omega) (by simp)
    have e0 : Pro.altP L (s.size : Nat) (Pro.deepO L (s.size : Nat) r) (Pro.openO L (s.size : Nat) n).n = Pro.altO L (s.size : Nat) (Pro.deepO L (s.size : Nat) r) (L.length + 1 - (Pro.openO L (s.size : Nat) n).n) [] (Pro.openO L (s.size : Nat) n).n := rfl
    rw [← e0] at r1 r2
    have hai := Pro.altP_in (L := L) (len := (s.size : Nat)) (D := Pro.deepO L (s.size : Nat) r) (Pro.deepO_in r) (Pro.openO L (s.size : Nat) n).n hoi.2
    by_cases hk2 : (Pro.altP L (s.size : Nat) (Pro.deepO L (s.size : Nat) r) (Pro.openO L (s.size : Nat) n).n).k = 0
    · rw [if_neg (by simp [hk2])]
      obtain ⟨ts, f2, p2, at2, e2, b2, hf2, ha2, hB, _, hadd⟩ := r1.2 hk2
      obtain ⟨hs1, hs2⟩ := r2 hk2
      have hts : Ref.AddsTo ts (Pro.altP L (s.size : Nat) (Pro.deepO L (s.size : Nat) r) (Pro.openO L (s.size : Nat) n).n).v := hadd [] (by exact Ref.AddsTo.nil)
      have hvb := hai.2.2 hk2
      rw [e2]
      by_cases h41 : Pro.letAt L (Pro.altP L (s.size : Nat) (Pro.deepO L (s.size : Nat) r) (Pro.openO L (s.size : Nat) n).n).n = 41
      · rw [if_pos h41]
        have hb2 := (b2.eqv 41 (by omega)).1 h41
        have hlt2 : p2 < s.size := (byteAt_nonneg s p2).1 (by omega)
        obtain ⟨f2, rfl⟩ : ∃ f', f2 = f' + 1 := ⟨f2 - 1, by omega⟩
        refine ⟨fun hh => absurd rfl hh, fun _ => ⟨⟨3, false, [], 0, 0, 0⟩ :: ts ++ [⟨4, false, [], 0, 0, 0⟩], f2, p2 + 1, ?_, b2.go hb2 (by omega) (by omega), by omega, AtomOK.group rfl rfl (tokB0 rfl rfl) (tokB0 rfl rfl) hB hts hvb.1 hvb.2⟩⟩
        have hi2 : (st0 p2).i = p2 := rfl
        have et2 : Ref.tokenF s (st0 p2) = (⟨4, false, [], 0, 0, 0⟩, st0 (p2 + 1)) := by
          unfold Ref.tokenF; rw [hi2, if_neg (by omega), if_neg (by omega), if_neg (by omega), if_neg (by omega), if_neg (by omega), if_neg (by omega), if_neg (by omega), if_pos hb2, go0]
        rw [Ref.tokensF_tok (st := st0 p2) ⟨hlt2, rfl⟩ (fun hh => by have : Ref.quantB (byteAt s p2) = true := hh.2; rw [hb2] at this; exact absurd this (by decide)) (fun hh => by have : byteAt s p2 = 40 := hh.1; omega), et2]
        simp only []
        have e4 : Ref.turnO 4 (op + 1) = op := by unfold Ref.turnO; rw [if_neg (by decide), if_pos rfl]; omega
        rw [e4, if_neg (by omega)]
        simp only [List.append_assoc, List.cons_append, List.nil_append]
        rfl
      · rw [if_neg h41]
        refine ⟨fun _ => ?_, fun hh => absurd hh (by simp [Pro.bad])⟩
        have hend : ¬ p2 < s.size := by
          rcases (stop_same b2).1 hs1 with k | k | k
          · exact k
          · exact absurd ((b2.eqv 124 (by omega)).2 k) hs2
          · exact absurd ((b2.eqv 41 (by omega)).2 k) h41
        obtain ⟨f2, rfl⟩ : ∃ f', f2 = f' + 1 := ⟨f2 - 1, by have := b2.good.le; omega⟩
        rw [Ref.tokensF_end (st := st0 p2) (fun hh => hend hh.1), if_pos (by omega), fail0]
        refine ⟨l ++ [⟨3, false, [], 0, 0, 0⟩] ++ ts, ?_⟩
        have := b2.good.le
        have := b2.place
        show (_, (3 : Int), ((s.size : Nat) : Int)) = (_, ((3 : Nat) : Int), Pro.placeAt L (s.size : Nat) _)
        rw [b2.place, show p2 = s.size by omega]
        rfl
    · rw [if_pos hk2]
      exact ⟨r1.1, fun hh => absurd hh hk2⟩
  · rw [if_pos hk1]
    have he := hos.2 hk1
    obtain ⟨l', hl⟩ := loop_fault (s := s) (f := f) (l := l ++ [⟨3, false, [], 0, 0, 0⟩]) (op := op + 1) (atom := false) (out_ne hos hk1)
    exact ⟨fun _ => ⟨l', by rw [hl, he.1, he.2]⟩, fun hh => absurd hh hk1⟩
theorem group_deeps : ∀ r : Nat, r ≤ 10 → GroupGoes s L ((10 : Int) - r) (Pro.deepO L (s.size : Nat) r)
  | 0, _ => group_zero
  | r + 1, hr => by
    refine group_succ (by omega) (by omega) ?_
    rw [show ((10 : Int) - ((r + 1 : Nat) : Int)) + 1 = (10 : Int) - r by omega]
    exact group_deeps r (by omega)
/-- The reader's answer to a whole pattern beside the lexer's. -/
theorem whole_same (h : Br s L 0 0) :
    ((Pro.altP L (s.size : Nat) (Pro.deepO L (s.size : Nat) 10) 0).k ≠ 0 → ∃ l', Ref.tokensR s = (l', ((Pro.altP L (s.size : Nat) (Pro.deepO L (s.size : Nat) 10) 0).k : Int), (Pro.altP L (s.size : Nat) (Pro.deepO L (s.size : Nat) 10) 0).p)) ∧
    ((Pro.altP L (s.size : Nat) (Pro.deepO L (s.size : Nat) 10) 0).k = 0 → ((Pro.altP L (s.size : Nat) (Pro.deepO L (s.size : Nat) 10) 0).n = L.length → ∃ ts, Ref.tokensR s = (ts, 0, 0) ∧ Ref.Bal ts ∧ Ref.AddsTo ts (Pro.altP L (s.size : Nat) (Pro.deepO L (s.size : Nat) 10) 0).v) ∧
      ((Pro.altP L (s.size : Nat) (Pro.deepO L (s.size : Nat) 10) 0).n ≠ L.length → ∃ l', Ref.tokensR s = (l', 3, Pro.placeAt L (s.size : Nat) (Pro.altP L (s.size : Nat) (Pro.deepO L (s.size : Nat) 10) 0).n))) := by
  have hD : GroupGoes s L 0 (Pro.deepO L (s.size : Nat) 10) := group_deeps 10 (by omega)
  obtain ⟨r1, r2⟩ := alt_goes hD (Pro.deepO_in 10) (by omega) (L.length + 1 - 0) (s.size + 1) [] [] 0 0 h (by omega) (by omega) (by simp)
  have e0 : Pro.altP L (s.size : Nat) (Pro.deepO L (s.size : Nat) 10) 0 = Pro.altO L (s.size : Nat) (Pro.deepO L (s.size : Nat) 10) (L.length + 1 - 0) [] 0 := rfl
  rw [← e0] at r1 r2
  have eR : Ref.tokensR s = Ref.tokensF s (s.size + 1) [] 0 false (st0 0) := rfl
  rw [eR]
  refine ⟨r1.1, fun hk => ?_⟩
  obtain ⟨ts, f2, p2, at2, e2, b2, hf2, ha2, hB, _, hadd⟩ := r1.2 hk
  obtain ⟨hs1, hs2⟩ := r2 hk
  have hts : Ref.AddsTo ts _ := hadd [] (by exact Ref.AddsTo.nil)
  rw [e2]
  constructor
  · intro hn
    have hend : ¬ p2 < s.size := fun hh => by have := b2.lt.2 hh; omega
    obtain ⟨f2, rfl⟩ : ∃ f', f2 = f' + 1 := ⟨f2 - 1, by have := b2.good.le; omega⟩
    refine ⟨ts, ?_, hB, hts⟩
    rw [Ref.tokensF_end (st := st0 p2) (fun hh => hend hh.1), if_neg (by omega)]
    rfl
  · intro hn
    have hlt2 : p2 < s.size := b2.lt.1 (by have := b2.le; omega)
    have hb2 : byteAt s p2 = 41 := by
      rcases (stop_same b2).1 hs1 with k | k | k
      · exact absurd hlt2 k
      · exact absurd ((b2.eqv 124 (by omega)).2 k) hs2
      · exact k
    obtain ⟨f2, rfl⟩ : ∃ f', f2 = f' + 1 := ⟨f2 - 1, by omega⟩
    have hi2 : (st0 p2).i = p2 := rfl
    have et2 : Ref.tokenF s (st0 p2) = (⟨4, false, [], 0, 0, 0⟩, st0 (p2 + 1)) := by
      unfold Ref.tokenF; rw [hi2, if_neg (by omega), if_neg (by omega), if_neg (by omega), if_neg (by omega), if_neg (by omega), if_neg (by omega), if_neg (by omega), if_pos hb2, go0]
    rw [Ref.tokensF_tok (st := st0 p2) ⟨hlt2, rfl⟩ (fun hh => by have : Ref.quantB (byteAt s p2) = true := hh.2; rw [hb2] at this; exact absurd this (by decide)) (fun hh => by have : byteAt s p2 = 40 := hh.1; omega), et2]
    simp only []
    have e4 : Ref.turnO 4 0 = -1 := by decide
    rw [e4, if_pos (by decide), fail0, hi2]
    obtain ⟨l', hl⟩ := loop_fault (s := s) (f := f2) (l := [] ++ ts ++ [⟨4, false, [], 0, 0, 0⟩]) (op := -1) (atom := ((4 : Int) == 1) || ((4 : Int) == 4)) (st := ⟨p2 + 1, 3, p2⟩) (show (3 : Int) ≠ 0 by decide)
    exact ⟨l', by rw [hl, b2.place]⟩
end Eqv
end Go.Proofs.YtdhmllobgijggaaGreatDoor
