/- The reader's escapes beside the lexer's. The reader's escapes beside the lexer's: whole. The reader's escapes and classes beside the lexer's. The reader's classes, counts and quantifiers beside the lexer's. The reader's counts, quantifiers and openings beside the lexer's. The reader's quantifiers and openings beside the lexer's. -/
import Derived.Test.YtdhmllobgijggaaGreatDoorKEqA
import Derived.Test.YtdhmllobgijggaaGreatDoorKParAF
namespace Go.Proofs.YtdhmllobgijggaaGreatDoor
open Go.RowKit

namespace Eqv
variable {s : ByteArray} {L : List (Int × Int)}
theorem Br.eqv {n p : Nat} (h : Br s L n p) (k : Int) (hk : k < 128) : Pro.letAt L n = k ↔ byteAt s p = k := by
  rcases h.alike with ⟨e, _⟩ | ⟨h1, h2⟩
  · rw [e]
  · constructor <;> intro hh <;> omega
theorem Br.go {n p : Nat} (h : Br s L n p) {k : Int} (hb : byteAt s p = k) (h0 : 0 ≤ k) (h1 : k < 128) : Br s L (n + 1) (p + 1) := h.next (by omega) (by omega)
def st0 (p : Nat) : St := ⟨p, 0, 0⟩
theorem fail0 (p : Nat) (e a : Int) : (st0 p).fail e a = ⟨p, e, a⟩ := by unfold st0 St.fail; rw [if_pos rfl]
theorem go0 (p k : Nat) : (st0 p).go k = st0 (p + k) := rfl

theorem same_fault {k n : Nat} {q : Int} {v : Int} {st : St} (hk : k ≠ 0) (he : st.e = (k : Int)) (ha : st.a = q) : Same s L (Pro.bad k q n) v st := ⟨fun h => absurd h hk, fun _ => ⟨he, ha⟩⟩
theorem same_good {v : Int} {n p : Nat} (h : Br s L n p) : Same s L (Pro.good v n) v (st0 p) := ⟨fun _ => ⟨rfl, rfl, rfl, h⟩, fun h => absurd rfl h⟩

theorem hex_same : ∀ (f : Nat) (c : Int) (n p : Nat), Br s L n p → Same s L (Pro.hexO L (s.size : Nat) f c n) (Ref.hexF s f c (st0 p)).1 (Ref.hexF s f c (st0 p)).2
  | 0, c, n, p, h => same_good h
  | f + 1, c, n, p, h => by
    by_cases hb : Ref.hexV (byteAt s p) < 0
    · rw [Ref.hexF_bad (st := st0 p) hb, Pro.hexO_bad (by rw [h.hexV]; exact hb), fail0]
      exact same_fault (by decide) rfl h.place.symm
    · have hb0 : 0 ≤ Ref.hexV (byteAt s p) := by omega
      rw [Ref.hexF_good (st := st0 p) hb0, Pro.hexO_good (by rw [h.hexV]; exact hb0), h.hexV, go0]
      have hx : 48 ≤ byteAt s p ∧ byteAt s p ≤ 102 := by unfold Ref.hexV at hb0; (repeat' split at hb0) <;> omega
      exact hex_same f _ (n + 1) (p + 1) (h.next (by omega) (by omega))
theorem hexd {b : Int} (h : 0 ≤ Ref.hexV b) : 48 ≤ b ∧ b ≤ 102 := by unfold Ref.hexV at h; (repeat' split at h) <;> omega
theorem braced_same : ∀ (f g : Nat) (c : Int) (d n p : Nat), Br s L n p → L.length < n + f → s.size < p + g → Same s L (Pro.bracedO L (s.size : Nat) f c d n) (Ref.bracedF s g c d (st0 p)).1 (Ref.bracedF s g c d (st0 p)).2
  | 0, g, c, d, n, p, h, hf, hg => by have := h.le; omega
  | f + 1, 0, c, d, n, p, h, hf, hg => by have := h.good.le; omega
  | f + 1, g + 1, c, d, n, p, h, hf, hg => by
    by_cases hc : 0 < d ∧ byteAt s p = 125
    · rw [Ref.bracedF_close (st := st0 p) hc.1 hc.2, Pro.bracedO_close hc.1 ((h.eqv 125 (by omega)).2 hc.2), go0]
      exact same_good (h.go hc.2 (by omega) (by omega))
    · have hc' : ¬ (0 < d ∧ Pro.letAt L n = 125) := fun hh => hc ⟨hh.1, (h.eqv 125 (by omega)).1 hh.2⟩
      by_cases hb : Ref.hexV (byteAt s p) < 0 ∨ 1114111 < 16 * c + Ref.hexV (byteAt s p)
      · rw [Ref.bracedF_bad (st := st0 p) hc hb, Pro.bracedO_bad hc' (by rw [h.hexV]; exact hb), fail0]
        exact same_fault (by decide) rfl h.place.symm
      · rw [Ref.bracedF_good (st := st0 p) hc hb, Pro.bracedO_good hc' (by rw [h.hexV]; exact hb), h.hexV, go0]
        have hx := hexd (b := byteAt s p) (by omega)
        have hn := h.next (by omega) (by omega)
        exact braced_same f g _ (d + 1) (n + 1) (p + 1) hn (by omega) (by omega)
theorem half_same : ∀ (f : Nat) (c : Int) (n p : Nat), Br s L n p → ((Pro.hexO L (s.size : Nat) f c n).k = 0 → Ref.halfD s f p c = (Pro.hexO L (s.size : Nat) f c n).v ∧ Br s L (Pro.hexO L (s.size : Nat) f c n).n (p + f)) ∧ ((Pro.hexO L (s.size : Nat) f c n).k ≠ 0 → Ref.halfD s f p c = -1)
  | 0, c, n, p, h => ⟨fun _ => ⟨rfl, h⟩, fun hk => absurd rfl hk⟩
  | f + 1, c, n, p, h => by
    by_cases hb : Ref.hexV (byteAt s p) < 0
    · rw [Ref.halfD_bad hb, Pro.hexO_bad (by rw [h.hexV]; exact hb)]
      exact ⟨fun hk => absurd hk (by simp [Pro.bad]), fun _ => rfl⟩
    · have hb0 : 0 ≤ Ref.hexV (byteAt s p) := by omega
      rw [Ref.halfD_good hb0, Pro.hexO_good (by rw [h.hexV]; exact hb0), h.hexV]
      have hx := hexd hb0
      have := half_same f (16 * c + Ref.hexV (byteAt s p)) (n + 1) (p + 1) (h.next (by omega) (by omega))
      rw [show p + (f + 1) = p + 1 + f by omega]
      exact this
/-- A whole escape of four digits that stands at a place. -/
theorem half_at {n p : Nat} (h : Br s L n p) (h1 : byteAt s p = 92) (h2 : byteAt s (p + 1) = 117) : Ref.halfF s p = (if (Pro.hexO L (s.size : Nat) 4 0 (n + 2)).k = 0 then (Pro.hexO L (s.size : Nat) 4 0 (n + 2)).v else -1) := by
  have hb := (h.go h1 (by omega) (by omega)).go h2 (by omega) (by omega)
  have hh := half_same 4 0 (n + 2) (p + 2) hb
  by_cases hk : (Pro.hexO L (s.size : Nat) 4 0 (n + 2)).k = 0
  · rw [if_pos hk]
    have := (hh.1 hk).2.good.le
    rw [Ref.halfF_yes (by omega)]
    exact (hh.1 hk).1
  · rw [if_neg hk]
    by_cases hsz : s.size < p + 6 ∨ byteAt s p ≠ 92 ∨ byteAt s (p + 1) ≠ 117
    · exact Ref.halfF_no hsz
    · rw [Ref.halfF_yes hsz]; exact hh.2 hk
theorem low_same {n p : Nat} (h : Br s L n p) : Pro.lowV L (s.size : Nat) n = (if 56320 ≤ Ref.halfF s p ∧ Ref.halfF s p ≤ 57343 then Ref.halfF s p else -1) := by
  by_cases h1 : byteAt s p = 92
  · have hb := h.go h1 (by omega) (by omega)
    by_cases h2 : byteAt s (p + 1) = 117
    · rw [half_at h h1 h2]
      unfold Pro.lowV
      have e1 := (h.eqv 92 (by omega)).2 h1
      have e2 := (hb.eqv 117 (by omega)).2 h2
      by_cases hk : (Pro.hexO L (s.size : Nat) 4 0 (n + 2)).k = 0
      · simp only [if_pos hk]
        by_cases hr : 56320 ≤ (Pro.hexO L (s.size : Nat) 4 0 (n + 2)).v ∧ (Pro.hexO L (s.size : Nat) 4 0 (n + 2)).v ≤ 57343
        · rw [if_pos ⟨e1, e2, hk, hr.1, hr.2⟩, if_pos hr]
        · rw [if_neg (fun hh => hr ⟨hh.2.2.2.1, hh.2.2.2.2⟩), if_neg hr]
      · simp only [if_neg hk]
        rw [if_neg (fun hh => hk hh.2.2.1), if_neg (by omega)]
    · rw [Ref.halfF_no (.inr (.inr h2)), if_neg (by omega)]
      unfold Pro.lowV
      rw [if_neg (fun hh => h2 ((hb.eqv 117 (by omega)).1 hh.2.1))]
  · rw [Ref.halfF_no (.inr (.inl h1)), if_neg (by omega)]
    unfold Pro.lowV
    rw [if_neg (fun hh => h1 ((h.eqv 92 (by omega)).1 hh.1))]
end Eqv
end Go.Proofs.YtdhmllobgijggaaGreatDoor
namespace Go.Proofs.YtdhmllobgijggaaGreatDoor
open Go.RowKit

namespace Eqv
variable {s : ByteArray} {L : List (Int × Int)}
theorem sign_high {x : Int} (h : 128 ≤ x) : Pro.sign x = false := by unfold Pro.sign; simp; omega
theorem sign_same (x : Int) : Pro.sign x = Ref.signB x := rfl
theorem ctl_same (x : Int) : Pro.ctlV x = Ref.controlV x := rfl
theorem ctl_high {x : Int} (h : 128 ≤ x) : ¬ 0 ≤ Pro.ctlV x := by unfold Pro.ctlV; (repeat' split) <;> omega
theorem short_high {x : Int} (h : 128 ≤ x) : Pro.shortB x = false := by unfold Pro.shortB; simp [sign_high h, ctl_high h]
theorem sign_cases {x : Int} (h : Pro.sign x = true) : 36 ≤ x ∧ x ≤ 125 ∧ x ≠ 48 ∧ x ≠ 99 ∧ x ≠ 120 ∧ x ≠ 117 := by unfold Pro.sign at h; simp at h; omega
theorem ctl_cases {x : Int} (h : 0 ≤ Pro.ctlV x) : x = 116 ∨ x = 110 ∨ x = 118 ∨ x = 102 ∨ x = 114 := by unfold Pro.ctlV at h; (repeat' split at h) <;> omega

theorem unicode_same {m q : Nat} (h : Br s L m q) (h92 : byteAt s q = 92) (h117 : byteAt s (q + 1) = 117) :
    Same s L (if Pro.letAt L (m + 2) = 123 then Pro.bracedP L (s.size : Nat) (m + 3) else Pro.unicodeO L (s.size : Nat) (m + 2)) (Ref.unicodeF s (st0 (q + 1))).1 (Ref.unicodeF s (st0 (q + 1))).2 := by
  have h1 := h.go h92 (by omega) (by omega)
  have h2 := h1.go h117 (by omega) (by omega)
  by_cases h123 : byteAt s (q + 2) = 123
  · have h3 := h2.go h123 (by omega) (by omega)
    rw [if_pos ((h2.eqv 123 (by omega)).2 h123)]
    unfold Ref.unicodeF
    rw [if_pos (show byteAt s ((st0 (q + 1)).i + 1) = 123 from h123)]
    unfold Ref.bracedR Pro.bracedP
    have hl := h3.le
    have hg := h3.good.le
    exact braced_same _ _ 0 0 (m + 3) (q + 3) h3 (by omega) (by show s.size < q + 3 + (s.size + 1 - (q + 1 + 2)); omega)
  · rw [if_neg (fun hh => h123 ((h2.eqv 123 (by omega)).1 hh))]
    unfold Ref.unicodeF
    rw [if_neg (show ¬ byteAt s ((st0 (q + 1)).i + 1) = 123 from h123)]
    have hf := half_at h h92 h117
    have hh := half_same 4 0 (m + 2) (q + 2) h2
    have hx := hex_same (s := s) (L := L) 4 0 (m + 2) (q + 2) h2
    have e1 : Ref.halfF s ((st0 (q + 1)).i - 1) = Ref.halfF s q := rfl
    have e2 : Ref.halfF s ((st0 (q + 1)).i + 5) = Ref.halfF s (q + 6) := rfl
    by_cases hk : (Pro.hexO L (s.size : Nat) 4 0 (m + 2)).k = 0
    · have hb := (hh.1 hk).2
      have hn := (Pro.hexO_n L (s.size : Nat) 4 0 (m + 2) h2.le).2.2 hk
      have hb' : Br s L (m + 6) (q + 6) := by rw [hn] at hb; exact hb
      have hlow := low_same hb'
      rw [if_pos hk] at hf
      by_cases hr : 55296 ≤ (Pro.hexO L (s.size : Nat) 4 0 (m + 2)).v ∧ (Pro.hexO L (s.size : Nat) 4 0 (m + 2)).v ≤ 56319
      · by_cases hl : 56320 ≤ Ref.halfF s (q + 6) ∧ Ref.halfF s (q + 6) ≤ 57343
        · have hp : Ref.pairB s (st0 (q + 1)) = true := by unfold Ref.pairB; rw [e1, e2, hf]; simp [hr.1, hr.2, hl.1, hl.2]
          rw [if_pos hl] at hlow
          rw [if_pos hp, e1, e2, hf]
          have hu : Pro.unicodeO L (s.size : Nat) (m + 2) = Pro.good (65536 + ((Pro.hexO L (s.size : Nat) 4 0 (m + 2)).v - 55296) * 1024 + (Ref.halfF s (q + 6) - 56320)) (m + 6 + 6) := by
            unfold Pro.unicodeO
            rw [if_neg (by omega), hn, show m + 2 + 4 = m + 6 by omega, hlow, if_pos (by omega)]
          rw [hu]
          have hlo : 0 ≤ Pro.lowV L (s.size : Nat) (m + 6) := by rw [hlow]; omega
          -- six letters more are six bytes more
          have h92' : byteAt s (q + 6) = 92 ∧ byteAt s (q + 7) = 117 := by
            by_cases hn92 : s.size < q + 6 + 6 ∨ byteAt s (q + 6) ≠ 92 ∨ byteAt s (q + 6 + 1) ≠ 117
            · rw [Ref.halfF_no hn92] at hl; omega
            · have e : q + 6 + 1 = q + 7 := rfl
              rw [e] at hn92
              exact ⟨Classical.byContradiction fun hh => hn92 (.inr (.inl hh)), Classical.byContradiction fun hh => hn92 (.inr (.inr hh))⟩
          have hbb := (hb'.go h92'.1 (by omega) (by omega)).go h92'.2 (by omega) (by omega)
          have hh2 := half_same 4 0 (m + 6 + 2) (q + 6 + 2) hbb
          have hk2 : (Pro.hexO L (s.size : Nat) 4 0 (m + 6 + 2)).k = 0 := by
            by_cases hk2 : (Pro.hexO L (s.size : Nat) 4 0 (m + 6 + 2)).k = 0
            · exact hk2
            · have := half_at hb' h92'.1 h92'.2
              rw [if_neg hk2] at this
              omega
          have hend := (hh2.1 hk2).2
          have hn2 := (Pro.hexO_n L (s.size : Nat) 4 0 (m + 6 + 2) hbb.le).2.2 hk2
          rw [hn2] at hend
          rw [go0]
          refine ⟨fun _ => ⟨rfl, rfl, ?_, hend⟩, fun h => absurd rfl h⟩
          show 65536 + (_ - 55296) * 1024 + Ref.halfF s (q + 6) - 56320 = 65536 + (_ - 55296) * 1024 + (Ref.halfF s (q + 6) - 56320)
          omega
        · have hp : ¬ Ref.pairB s (st0 (q + 1)) = true := by unfold Ref.pairB; rw [e1, e2]; simp; intro _ _; omega
          rw [if_neg hl] at hlow
          rw [if_neg hp]
          have hu : Pro.unicodeO L (s.size : Nat) (m + 2) = Pro.hexO L (s.size : Nat) 4 0 (m + 2) := by
            unfold Pro.unicodeO
            rw [if_neg (by omega), hn, show m + 2 + 4 = m + 6 by omega, hlow, if_neg (by omega)]
          rw [hu]
          exact hx
      · have hp : ¬ Ref.pairB s (st0 (q + 1)) = true := by unfold Ref.pairB; rw [e1, hf]; simp; omega
        rw [if_neg hp]
        have hu : Pro.unicodeO L (s.size : Nat) (m + 2) = Pro.hexO L (s.size : Nat) 4 0 (m + 2) := by
          unfold Pro.unicodeO
          rw [if_pos (by omega)]
        rw [hu]
        exact hx
    · rw [if_neg hk] at hf
      have hp : ¬ Ref.pairB s (st0 (q + 1)) = true := by unfold Ref.pairB; rw [e1, hf]; simp
      rw [if_neg hp]
      have hu : Pro.unicodeO L (s.size : Nat) (m + 2) = Pro.hexO L (s.size : Nat) 4 0 (m + 2) := by
        unfold Pro.unicodeO
        rw [if_pos (.inl hk)]
      rw [hu]
      exact hx
end Eqv
end Go.Proofs.YtdhmllobgijggaaGreatDoor
namespace Go.Proofs.YtdhmllobgijggaaGreatDoor
open Go.RowKit

namespace Eqv
variable {s : ByteArray} {L : List (Int × Int)}
theorem num_same (cls : Bool) {m q : Nat} (h : Br s L m q) (h92 : byteAt s q = 92) (hcl : cls = true → byteAt s (q + 1) ≠ 45 ∧ byteAt s (q + 1) ≠ 98) :
    Same s L (Pro.numO L (s.size : Nat) (m + 1)) (Ref.numberF s cls (st0 (q + 1))).1 (Ref.numberF s cls (st0 (q + 1))).2 := by
  have h1 := h.go h92 (by omega) (by omega)
  have hi : (st0 (q + 1)).i = q + 1 := rfl
  have hbad : ∀ (hs : Pro.shortB (Pro.letAt L (m + 1)) = false) (k1 : byteAt s (q + 1) ≠ 48) (k2 : byteAt s (q + 1) ≠ 99) (k3 : byteAt s (q + 1) ≠ 120) (k4 : byteAt s (q + 1) ≠ 117) (hc : ¬ 0 ≤ Ref.controlV (byteAt s (q + 1))) (hg : Ref.signB (byteAt s (q + 1)) = false),
      Same s L (Pro.numO L (s.size : Nat) (m + 1)) (Ref.numberF s cls (st0 (q + 1))).1 (Ref.numberF s cls (st0 (q + 1))).2 := by
    intro hs k1 k2 k3 k4 hc hg
    have n1 := fun e => k1 ((h1.eqv 48 (by omega)).1 e)
    have n2 := fun e => k2 ((h1.eqv 99 (by omega)).1 e)
    have n3 := fun e => k3 ((h1.eqv 120 (by omega)).1 e)
    have n4 := fun e => k4 ((h1.eqv 117 (by omega)).1 e)
    unfold Pro.numO Ref.numberF
    rw [hi, if_neg (by simp [hs]), if_neg n1, if_neg n2, if_neg n3, if_neg (fun hh => n4 hh.1), if_neg n4, if_neg hc, if_neg k1, if_neg k2, if_neg k3, if_neg k4, if_neg (by
      rintro (hh | ⟨hh, he⟩)
      · rw [hg] at hh; cases hh
      · exact (hcl hh).1 he), if_neg (fun hh => (hcl hh.1).2 hh.2), fail0]
    exact same_fault (by decide) rfl h1.place.symm
  rcases h1.alike with ⟨e, hb⟩ | ⟨hhi, hbi⟩
  · cases hs : Pro.shortB (Pro.letAt L (m + 1))
    · have hc : ¬ 0 ≤ Ref.controlV (byteAt s (q + 1)) := by rw [e] at hs; unfold Pro.shortB at hs; simp at hs; rw [← ctl_same]; omega
      have hg : Ref.signB (byteAt s (q + 1)) = false := by rw [e] at hs; unfold Pro.shortB at hs; simp at hs; exact hs.2
      by_cases k1 : byteAt s (q + 1) = 48
      · have h2 := h1.go k1 (by omega) (by omega)
        unfold Pro.numO Ref.numberF
        rw [hi, if_neg (by simp [hs]), if_pos ((h1.eqv 48 (by omega)).2 k1), if_neg hc, if_pos k1]
        unfold Pro.zeroO Pro.dig
        rcases h2.alike with ⟨e2, hb2⟩ | ⟨hh2, hb2⟩
        · rw [e2]
          by_cases hd : 48 ≤ byteAt s (q + 1 + 1) ∧ byteAt s (q + 1 + 1) ≤ 57
          · rw [if_pos (by simp [hd.1, hd.2]), if_pos hd, go0, fail0]
            exact same_fault (by decide) rfl h2.place.symm
          · rw [if_neg (by simp; omega), if_neg hd, go0]
            exact same_good h2
        · rw [if_neg (by simp; omega), if_neg (by omega), go0]
          exact same_good h2
      · by_cases k2 : byteAt s (q + 1) = 99
        · have h2 := h1.go k2 (by omega) (by omega)
          unfold Pro.numO Ref.numberF
          rw [hi, if_neg (by simp [hs]), if_neg (by rw [e]; exact k1), if_pos ((h1.eqv 99 (by omega)).2 k2), if_neg hc, if_neg k1, if_pos k2]
          unfold Pro.controlO
          rcases h2.alike with ⟨e2, hb2⟩ | ⟨hh2, hb2⟩
          · rw [e2]
            by_cases hd : (97 ≤ byteAt s (q + 1 + 1) ∧ byteAt s (q + 1 + 1) ≤ 122) ∨ (65 ≤ byteAt s (q + 1 + 1) ∧ byteAt s (q + 1 + 1) ≤ 90)
            · rw [if_pos (show Pro.letter _ from hd), if_pos hd, go0]
              exact same_good (h2.next (by omega) (by omega))
            · rw [if_neg (show ¬ Pro.letter _ from hd), if_neg hd, go0, fail0]
              exact same_fault (by decide) rfl h2.place.symm
          · rw [if_neg (show ¬ Pro.letter _ by unfold Pro.letter; omega), if_neg (by omega), go0, fail0]
            exact same_fault (by decide) rfl h2.place.symm
        · by_cases k3 : byteAt s (q + 1) = 120
          · have h2 := h1.go k3 (by omega) (by omega)
            unfold Pro.numO Ref.numberF
            rw [hi, if_neg (by simp [hs]), if_neg (by rw [e]; exact k1), if_neg (by rw [e]; exact k2), if_pos ((h1.eqv 120 (by omega)).2 k3), if_neg hc, if_neg k1, if_neg k2, if_pos k3, go0]
            exact hex_same 2 0 (m + 2) (q + 2) h2
          · by_cases k4 : byteAt s (q + 1) = 117
            · have hu := unicode_same h h92 k4
              unfold Pro.numO Ref.numberF
              rw [hi, if_neg (by simp [hs]), if_neg (by rw [e]; exact k1), if_neg (by rw [e]; exact k2), if_neg (by rw [e]; exact k3), if_neg hc, if_neg k1, if_neg k2, if_neg k3, if_pos k4]
              have e117 := (h1.eqv 117 (by omega)).2 k4
              by_cases h123 : Pro.letAt L (m + 2) = 123
              · rw [if_pos h123] at hu
                rw [if_pos ⟨e117, h123⟩]
                exact hu
              · rw [if_neg h123] at hu
                rw [if_neg (fun hh => h123 hh.2), if_pos e117]
                exact hu
            · exact hbad hs k1 k2 k3 k4 hc hg
    · unfold Pro.numO Ref.numberF
      rw [hi, if_pos hs, e]
      by_cases hc : 0 ≤ Ref.controlV (byteAt s (q + 1))
      · have hcs := ctl_cases hc
        rw [if_pos hc, go0]
        have : Pro.shortV (byteAt s (q + 1)) = Ref.controlV (byteAt s (q + 1)) := by unfold Pro.shortV; rw [if_pos (show 0 ≤ Pro.ctlV _ from hc)]; rfl
        rw [this]
        exact same_good (h1.next (by omega) (by omega))
      · have hg : Pro.sign (byteAt s (q + 1)) = true := by rw [e] at hs; unfold Pro.shortB at hs; simp at hs; rcases hs with hs | hs; exact absurd hs hc; exact hs
        have hcs := sign_cases hg
        rw [if_neg hc, if_neg hcs.2.2.1, if_neg hcs.2.2.2.1, if_neg hcs.2.2.2.2.1, if_neg hcs.2.2.2.2.2, if_pos (.inl hg), go0]
        have : Pro.shortV (byteAt s (q + 1)) = byteAt s (q + 1) := by unfold Pro.shortV; rw [if_neg (show ¬ 0 ≤ Pro.ctlV _ from hc)]
        rw [this]
        exact same_good (h1.next (by omega) (by omega))
  · exact hbad (short_high hhi) (by omega) (by omega) (by omega) (by omega) (by rw [← ctl_same]; exact ctl_high hbi) (by rw [← sign_same]; exact sign_high hbi)

theorem set_same (x : Int) : Pro.setB x = true ↔ Ref.setL x ≠ [] := by
  unfold Pro.setB Ref.setL
  simp only [List.any_cons, List.any_nil, Bool.or_false, Bool.or_eq_true, decide_eq_true_eq]
  constructor
  · intro h
    (repeat' split) <;> first | (intro hh; cases hh; done) | omega
  · intro h
    (repeat' split at h) <;> first | omega | exact absurd rfl h
theorem back_same (x : Int) : Pro.backB x = Ref.backB x := by
  have : (Pro.backB x = true) ↔ (Ref.backB x = true) := by
    unfold Pro.backB Ref.backB
    simp
    omega
  cases h1 : Pro.backB x <;> cases h2 : Ref.backB x <;> simp_all
theorem set_high {x : Int} (h : 128 ≤ x ∨ x < 0) : Pro.setB x = false := by unfold Pro.setB; simp; omega
theorem back_high {x : Int} (h : 128 ≤ x ∨ x < 0) : Pro.backB x = false := by unfold Pro.backB; simp; omega
theorem set_back {x : Int} (h : Pro.setB x = true) : Pro.backB x = false ∧ 68 ≤ x ∧ x ≤ 119 ∧ x ≠ 98 ∧ x ≠ 45 := by unfold Pro.setB at h; unfold Pro.backB; simp at h ⊢; omega

/-- An escape's part in the lexer: of many characters, or one number. -/
theorem esc_same (cls : Bool) {m q : Nat} (h : Br s L m q) (h92 : byteAt s q = 92) (hcl : cls = true → byteAt s (q + 1) ≠ 45 ∧ byteAt s (q + 1) ≠ 98) :
    Same s L (Pro.escO L (s.size : Nat) m) (Pro.escO L (s.size : Nat) m).v (Ref.escapeF s cls (st0 q)).2.2 ∧ ((Pro.escO L (s.size : Nat) m).k = 0 → (Ref.escapeF s cls (st0 q)).2.1 = !Pro.setB (Pro.letAt L (m + 1)) ∧ ((Ref.escapeF s cls (st0 q)).2.1 = true → (Ref.escapeF s cls (st0 q)).1 = ⟨false, [((Pro.escO L (s.size : Nat) m).v, (Pro.escO L (s.size : Nat) m).v)]⟩)) := by
  have h1 := h.go h92 (by omega) (by omega)
  have hi : (st0 q).i = q := rfl
  have hset : Pro.setB (Pro.letAt L (m + 1)) = Pro.setB (byteAt s (q + 1)) := by
    rcases h1.alike with ⟨e, _⟩ | ⟨a, b⟩
    · rw [e]
    · rw [set_high (.inl a), set_high (.inl b)]
  have hback : Pro.backB (Pro.letAt L (m + 1)) = Ref.backB (byteAt s (q + 1)) := by
    rw [← back_same]
    rcases h1.alike with ⟨e, _⟩ | ⟨a, b⟩
    · rw [e]
    · rw [back_high (.inl a), back_high (.inl b)]
  cases hs : Pro.setB (byteAt s (q + 1))
  · have hs' : ¬ Ref.setL (byteAt s (q + 1)) ≠ [] := fun hh => by rw [(set_same _).2 hh] at hs; cases hs
    cases hb : Ref.backB (byteAt s (q + 1))
    · have e1 : Pro.escO L (s.size : Nat) m = Pro.numO L (s.size : Nat) (m + 1) := by unfold Pro.escO; rw [hset, hback, hs, hb]; simp
      have e2 : Ref.escapeF s cls (st0 q) = (⟨false, [((Ref.numberF s cls (st0 (q + 1))).1, (Ref.numberF s cls (st0 (q + 1))).1)]⟩, true, (Ref.numberF s cls (st0 (q + 1))).2) := by
        unfold Ref.escapeF; rw [hi, hb, if_neg (by simp), if_neg hs', go0]
      have hn := num_same cls h h92 hcl
      rw [e1, e2, hset, hs]
      refine ⟨⟨fun hk => ?_, hn.2⟩, fun hk => ⟨rfl, fun _ => ?_⟩⟩
      · have := hn.1 hk; exact ⟨this.1, this.2.1, rfl, this.2.2.2⟩
      · have := (hn.1 hk).2.2.1; rw [this]
    · have e1 : Pro.escO L (s.size : Nat) m = Pro.bad 6 (Pro.placeAt L (s.size : Nat) m) (m + 1) := by unfold Pro.escO; rw [hset, hback, hs, hb]; simp
      have e2 : (Ref.escapeF s cls (st0 q)).2.2 = ⟨q + 1, 6, q⟩ := by unfold Ref.escapeF; rw [hi, if_pos hb, go0, fail0]
      rw [e1, e2]
      exact ⟨same_fault (by decide) rfl h.place.symm, fun hk => absurd hk (by simp [Pro.bad])⟩
  · have hsb := set_back hs
    have hb : Ref.backB (byteAt s (q + 1)) = false := by rw [← back_same]; exact hsb.1
    have e1 : Pro.escO L (s.size : Nat) m = Pro.good (Pro.letAt L (m + 1)) (m + 2) := by unfold Pro.escO; rw [hset, hs, if_pos rfl]
    have e2 : Ref.escapeF s cls (st0 q) = (⟨decide (byteAt s (q + 1) < 97), Ref.setL (byteAt s (q + 1))⟩, false, st0 (q + 2)) := by
      unfold Ref.escapeF; rw [hi, if_neg (by simp [hb]), if_pos ((set_same _).1 hs), go0]
    rw [e1, e2, hset, hs]
    exact ⟨⟨fun _ => ⟨rfl, rfl, rfl, h1.next (by omega) (by omega)⟩, fun hk => absurd rfl hk⟩, fun _ => ⟨rfl, fun hh => by cases hh⟩⟩
/-- A member's. -/
theorem member_same {m q : Nat} (h : Br s L m q) (hlt : q < s.size) :
    Same s L (Pro.memberO L (s.size : Nat) m) (Pro.memberO L (s.size : Nat) m).v (Ref.memberF s (st0 q)).2.2 ∧ ((Pro.memberO L (s.size : Nat) m).k = 0 → (Ref.memberF s (st0 q)).2.1 = !Pro.many L m ∧ ((Ref.memberF s (st0 q)).2.1 = true → (Ref.memberF s (st0 q)).1 = ⟨false, [((Pro.memberO L (s.size : Nat) m).v, (Pro.memberO L (s.size : Nat) m).v)]⟩)) := by
  have hi : (st0 q).i = q := rfl
  by_cases h92 : byteAt s q = 92
  · have h1 := h.go h92 (by omega) (by omega)
    have e92 := (h.eqv 92 (by omega)).2 h92
    have hm : Pro.many L m = Pro.setB (Pro.letAt L (m + 1)) := Pro.many_esc e92
    have eR : Ref.memberF s (st0 q) = Ref.escapeF s true (st0 q) := by unfold Ref.memberF; rw [hi, if_pos h92]
    by_cases hsp : byteAt s (q + 1) = 98 ∨ byteAt s (q + 1) = 45
    · have hb0 : byteAt s (q + 1) < 128 := by omega
      have e := h1.ascii hb0
      have hset : Pro.setB (byteAt s (q + 1)) = false := by rcases hsp with hh | hh <;> rw [hh] <;> decide
      have hs' : ¬ Ref.setL (byteAt s (q + 1)) ≠ [] := fun hh => by rw [(set_same _).2 hh] at hset; cases hset
      have hb : Ref.backB (byteAt s (q + 1)) = false := by rcases hsp with hh | hh <;> rw [hh] <;> decide
      have e2 : Ref.escapeF s true (st0 q) = (⟨false, [((Ref.numberF s true (st0 (q + 1))).1, (Ref.numberF s true (st0 (q + 1))).1)]⟩, true, (Ref.numberF s true (st0 (q + 1))).2) := by
        unfold Ref.escapeF; rw [hi, hb, if_neg (by simp), if_neg hs', go0]
      have hn : ∃ v, Ref.numberF s true (st0 (q + 1)) = (v, st0 (q + 2)) ∧ Pro.memberO L (s.size : Nat) m = Pro.good v (m + 2) := by
        have hi1 : (st0 (q + 1)).i = q + 1 := rfl
        rcases hsp with hh | hh
        · refine ⟨8, ?_, ?_⟩
          · unfold Ref.numberF; rw [hi1, hh, if_neg (by decide), if_neg (by decide), if_neg (by decide), if_neg (by decide), if_neg (by decide), if_neg (by decide), if_pos ⟨rfl, rfl⟩, go0]
          · unfold Pro.memberO; rw [if_pos ⟨e92, by rw [e]; exact hh⟩]
        · refine ⟨45, ?_, ?_⟩
          · unfold Ref.numberF; rw [hi1, hh, if_neg (by decide), if_neg (by decide), if_neg (by decide), if_neg (by decide), if_neg (by decide), if_pos (.inr ⟨rfl, rfl⟩), go0]
          · unfold Pro.memberO; rw [if_neg (fun hx => by rw [e, hh] at hx; exact absurd hx.2 (by decide)), if_pos ⟨e92, by rw [e]; exact hh⟩]
      obtain ⟨v, hn1, hn2⟩ := hn
      rw [eR, e2, hn1, hn2, hm, e, hset]
      exact ⟨⟨fun _ => ⟨rfl, rfl, rfl, h1.next (by omega) (by omega)⟩, fun hk => absurd rfl hk⟩, fun _ => ⟨rfl, fun _ => rfl⟩⟩
    · have e1 : Pro.memberO L (s.size : Nat) m = Pro.escO L (s.size : Nat) m := by
        unfold Pro.memberO
        rw [if_neg (fun hh => hsp (.inl ((h1.eqv 98 (by omega)).1 hh.2))), if_neg (fun hh => hsp (.inr ((h1.eqv 45 (by omega)).1 hh.2))), if_pos e92]
      rw [e1, eR, hm]
      exact esc_same true h h92 (fun _ => ⟨fun hh => hsp (.inr hh), fun hh => hsp (.inl hh)⟩)
  · have n92 : ¬ Pro.letAt L m = 92 := fun hh => h92 ((h.eqv 92 (by omega)).1 hh)
    obtain ⟨k, c, ho, hg, hn⟩ := h.step hlt
    have hl := (h.letter hlt ho).1
    have e1 : Pro.memberO L (s.size : Nat) m = Pro.good c (m + 1) := by
      unfold Pro.memberO
      rw [if_neg (fun hh => n92 hh.1), if_neg (fun hh => n92 hh.1), if_neg n92, hl]
    have e2 : Ref.memberF s (st0 q) = (⟨false, [(c, c)]⟩, true, st0 (q + k)) := by unfold Ref.memberF; rw [hi, if_neg h92, ho]; rfl
    rw [e1, e2, Pro.many_no n92]
    exact ⟨⟨fun _ => ⟨rfl, rfl, rfl, hn⟩, fun hk => absurd rfl hk⟩, fun _ => ⟨rfl, fun _ => rfl⟩⟩
end Eqv
end Go.Proofs.YtdhmllobgijggaaGreatDoor
namespace Go.Proofs.YtdhmllobgijggaaGreatDoor
open Go.RowKit

namespace Eqv
variable {s : ByteArray} {L : List (Int × Int)}
theorem st_eta {st : St} (he : st.e = 0) (ha : st.a = 0) : st = st0 st.i := by cases st; simp only at he ha; subst he; subst ha; rfl
theorem fail_nz {st : St} (h : st.e ≠ 0) (e a : Int) : st.fail e a = st := by unfold St.fail; rw [if_neg h]
theorem classF_err : ∀ (g : Nat) (ps : List Pt) (st : St), st.e ≠ 0 → (Ref.classF s g ps st).2.e = st.e ∧ (Ref.classF s g ps st).2.a = st.a
  | 0, ps, st, h => ⟨rfl, rfl⟩
  | g + 1, ps, st, h => by rw [Ref.classF_end (fun hh => h hh.1)]; exact ⟨rfl, rfl⟩
theorem dash_same {n p : Nat} (h : Br s L n p) : Pro.dashB L n = Ref.rangeB s (st0 p) := by
  have hi : (st0 p).i = p := rfl
  unfold Pro.dashB Ref.rangeB
  rw [hi]
  by_cases h45 : byteAt s p = 45
  · have h1 := h.go h45 (by omega) (by omega)
    have e1 := (h.eqv 45 (by omega)).2 h45
    have e2 := h1.eqv 93 (by omega)
    have e3 := h1.eqv (-1) (by omega)
    have e4 := byteAt_nonneg s (p + 1)
    have e5 := byteAt_lo s (p + 1)
    by_cases k1 : byteAt s (p + 1) = 93 <;> by_cases k2 : p + 1 < s.size
    · simp [e1, h45, e2.2 k1, k1]
    · simp [e1, h45, e2.2 k1, k1]
    · have k3 : ¬ Pro.letAt L (n + 1) = -1 := fun hh => by have := e3.1 hh; omega
      have k4 : ¬ Pro.letAt L (n + 1) = 93 := fun hh => k1 (e2.1 hh)
      simp [e1, h45, k1, k2, k3, k4, st0]
    · have k3 : Pro.letAt L (n + 1) = -1 := e3.2 (by omega)
      simp [e1, h45, k1, k2, k3, st0]
  · have e1 : ¬ Pro.letAt L n = 45 := fun hh => h45 ((h.eqv 45 (by omega)).1 hh)
    simp [e1, h45]
/-- Places rise with the letters. -/
theorem br_mono {n m p q : Nat} (h1 : Br s L n p) (h2 : Br s L m q) (hq : q ≤ p) : m ≤ n := by
  by_cases hnm : m ≤ n
  · exact hnm
  · exfalso
    have key : ∀ k n p, Br s L n p → n + k ≤ L.length → ∃ r, Br s L (n + k) r ∧ p + k ≤ r := by
      intro k
      induction k with
      | zero => intro n p h _; exact ⟨p, h, by omega⟩
      | succ k ih =>
        intro n p h hl
        have hp : p < s.size := h.lt.1 (by omega)
        obtain ⟨j, c, ho, _, hn⟩ := h.step hp
        obtain ⟨r, hr, hle⟩ := ih (n + 1) (p + j) hn (by omega)
        have := Ref.oneF_bd ho
        exact ⟨r, by rw [show n + (k + 1) = n + 1 + k by omega]; exact hr, by omega⟩
    obtain ⟨r, hr, hle⟩ := key (m - n) n p h1 (by have := h2.le; omega)
    rw [show n + (m - n) = m by omega] at hr
    have e1 := hr.place
    have e2 := h2.place
    rw [e1] at e2
    omega
theorem class_same : ∀ (f g : Nat) (ps : List Pt) (n p : Nat), Br s L n p → L.length < n + f → s.size < p + g → Same s L (Pro.classO L (s.size : Nat) f n) 1 (Ref.classF s g ps (st0 p)).2
  | 0, g, ps, n, p, h, hf, hg => by have := h.le; omega
  | f + 1, 0, ps, n, p, h, hf, hg => by have := h.good.le; omega
  | f + 1, g + 1, ps, n, p, h, hf, hg => by
    simp only [Pro.classO]
    by_cases h93 : byteAt s p = 93
    · rw [if_pos ((h.eqv 93 (by omega)).2 h93), Ref.classF_end (fun hh => hh.2 h93), go0]
      exact same_good (h.go h93 (by omega) (by omega))
    · have hc : (st0 p).e = 0 ∧ byteAt s (st0 p).i ≠ 93 := ⟨rfl, h93⟩
      rw [if_neg (fun hh => h93 ((h.eqv 93 (by omega)).1 hh))]
      by_cases hlt : p < s.size
      · have hln := h.lt.2 hlt
        have hb0 := (byteAt_nonneg s p).2 hlt
        have hc1 : ¬ byteAt s (st0 p).i < 0 := by show ¬ byteAt s p < 0; omega
        rw [if_neg (by omega)]
        have hm := member_same h hlt
        have hmi := Pro.memberO_in (L := L) (len := (s.size : Nat)) n hln
        by_cases hk : (Pro.memberO L (s.size : Nat) n).k = 0
        · obtain ⟨m1, m2, _, hb1⟩ := hm.1.1 hk
          obtain ⟨hone, hlo⟩ := hm.2 hk
          have hst := st_eta m1 m2
          have hd := dash_same hb1
          cases hdd : Pro.dashB L (Pro.memberO L (s.size : Nat) n).n
          · rw [hdd] at hd
            have ha : Pro.addO L (s.size : Nat) n = Pro.memberO L (s.size : Nat) n := by unfold Pro.addO; rw [if_neg (by simp [hk]), if_neg (by simp [hdd])]
            rw [ha, if_neg (by simp [hk]), Ref.classF_one hc hc1 (by rw [hst, ← hd]; simp), hst]
            have hgt : p < (Ref.memberF s (st0 p)).2.2.i := by
              have := hb1.good.le
              by_cases hh : p < (Ref.memberF s (st0 p)).2.2.i
              · exact hh
              · exfalso
                have := br_mono h hb1 (by omega)
                omega
            exact class_same f g _ _ _ hb1 (by omega) (by omega)
          · rw [hdd] at hd
            have hdy := Pro.dashB_yes hdd
            have h45 := (hb1.eqv 45 (by omega)).1 hdy.1
            have hb2 := hb1.go h45 (by omega) (by omega)
            have hlt2 : (Ref.memberF s (st0 p)).2.2.i + 1 < s.size := by
              by_cases hh : (Ref.memberF s (st0 p)).2.2.i + 1 < s.size
              · exact hh
              · exact absurd ((hb2.eqv (-1) (by omega)).2 (byteAt_out _ _ (by omega))) hdy.2.2
            have hm2 := member_same hb2 hlt2
            have hgo : (Ref.memberF s (st0 p)).2.2.go 1 = st0 ((Ref.memberF s (st0 p)).2.2.i + 1) := by rw [hst]; rfl
            have hr2 : Ref.rangeB s (Ref.memberF s (st0 p)).2.2 = true := by rw [hst]; exact hd.symm
            have hmi2 := Pro.memberO_in (L := L) (len := (s.size : Nat)) ((Pro.memberO L (s.size : Nat) n).n + 1) (Pro.letAt_ne hdy.2.2)
            by_cases hk2 : (Pro.memberO L (s.size : Nat) ((Pro.memberO L (s.size : Nat) n).n + 1)).k = 0
            · obtain ⟨p1, p2, _, hb3⟩ := hm2.1.1 hk2
              obtain ⟨htwo, hlo2⟩ := hm2.2 hk2
              have hst2 := st_eta p1 p2
              have hbad : Ref.badB (Ref.memberF s (st0 p)).1 (Ref.memberF s ((Ref.memberF s (st0 p)).2.2.go 1)).1 (Ref.memberF s (st0 p)).2.1 (Ref.memberF s ((Ref.memberF s (st0 p)).2.2.go 1)).2.1 = true ↔ (Pro.many L n = true ∨ Pro.many L ((Pro.memberO L (s.size : Nat) n).n + 1) = true ∨ (Pro.memberO L (s.size : Nat) ((Pro.memberO L (s.size : Nat) n).n + 1)).v < (Pro.memberO L (s.size : Nat) n).v) := by
                rw [hgo]
                unfold Ref.badB
                rw [hone, htwo]
                cases q1 : Pro.many L n
                · cases q2 : Pro.many L ((Pro.memberO L (s.size : Nat) n).n + 1)
                  · rw [q1] at hone
                    rw [q2] at htwo
                    rw [hlo hone, hlo2 htwo]
                    simp [Ref.loOf]
                    exact decide_eq_true_iff
                  · simp
                · simp
              by_cases hbb : Pro.many L n = true ∨ Pro.many L ((Pro.memberO L (s.size : Nat) n).n + 1) = true ∨ (Pro.memberO L (s.size : Nat) ((Pro.memberO L (s.size : Nat) n).n + 1)).v < (Pro.memberO L (s.size : Nat) n).v
              · have ha : Pro.addO L (s.size : Nat) n = Pro.bad 4 (Pro.placeAt L (s.size : Nat) (Pro.memberO L (s.size : Nat) n).n) (Pro.memberO L (s.size : Nat) ((Pro.memberO L (s.size : Nat) n).n + 1)).n := by
                  unfold Pro.addO; rw [if_neg (by simp [hk]), if_pos hdd]; unfold Pro.rangeO; rw [if_neg (by simp [hk2]), if_pos hbb]
                rw [ha, if_pos (by simp [Pro.bad]), Ref.classF_bad hc hc1 hr2 (by rw [hgo]; exact p1) (hbad.2 hbb), hgo, hst2, fail0]
                exact same_fault (by decide) rfl hb1.place.symm
              · have ha : Pro.addO L (s.size : Nat) n = Pro.memberO L (s.size : Nat) ((Pro.memberO L (s.size : Nat) n).n + 1) := by
                  unfold Pro.addO; rw [if_neg (by simp [hk]), if_pos hdd]; unfold Pro.rangeO; rw [if_neg (by simp [hk2]), if_neg hbb]
                rw [ha, if_neg (by simp [hk2]), Ref.classF_range hc hc1 hr2 (by rw [hgo]; exact p1) (fun hh => hbb (hbad.1 hh)), hgo, hst2]
                have hgt : p < (Ref.memberF s (st0 ((Ref.memberF s (st0 p)).2.2.i + 1))).2.2.i := by
                  by_cases hh : p < (Ref.memberF s (st0 ((Ref.memberF s (st0 p)).2.2.i + 1))).2.2.i
                  · exact hh
                  · exfalso
                    have := br_mono h hb3 (by omega)
                    omega
                exact class_same f g _ _ _ hb3 (by omega) (by omega)
            · have ha : Pro.addO L (s.size : Nat) n = Pro.memberO L (s.size : Nat) ((Pro.memberO L (s.size : Nat) n).n + 1) := by
                unfold Pro.addO; rw [if_neg (by simp [hk]), if_pos hdd]; unfold Pro.rangeO; rw [if_pos hk2]
              have he := hm2.1.2 hk2
              rw [ha, if_pos hk2, Ref.classF_dead hc hc1 hr2 (by rw [hgo, he.1]; omega), hgo]
              exact ⟨fun hh => absurd hh hk2, fun _ => he⟩
        · have ha : Pro.addO L (s.size : Nat) n = Pro.memberO L (s.size : Nat) n := by unfold Pro.addO; rw [if_pos hk]
          have he := hm.1.2 hk
          have hne : (Ref.memberF s (st0 p)).2.2.e ≠ 0 := by rw [he.1]; omega
          rw [ha, if_pos hk, Ref.classF_one hc hc1 (by unfold Ref.rangeB; simp [hne])]
          have hce := classF_err (s := s) g (ps ++ [(Ref.memberF s (st0 p)).1]) (Ref.memberF s (st0 p)).2.2 hne
          exact ⟨fun hh => absurd hh hk, fun _ => ⟨by rw [hce.1]; exact he.1, by rw [hce.2]; exact he.2⟩⟩
      · have hb0 : byteAt s p = -1 := byteAt_out s p (by omega)
        have hend := h.stop hlt
        rw [if_pos (by omega), Ref.classF_open hc (by show byteAt s p < 0; omega), fail0]
        exact same_fault (by decide) rfl (by have := h.good.le; show (p : Int) = ((s.size : Nat) : Int); omega)
end Eqv
end Go.Proofs.YtdhmllobgijggaaGreatDoor
namespace Go.Proofs.YtdhmllobgijggaaGreatDoor
open Go.RowKit

namespace Eqv
variable {s : ByteArray} {L : List (Int × Int)}
theorem dig_same {n p : Nat} (h : Br s L n p) : Pro.dig (Pro.letAt L n) = Ref.digitB (byteAt s p) := by
  unfold Pro.dig Ref.digitB
  rcases h.alike with ⟨e, _⟩ | ⟨a, b⟩
  · rw [e]
  · have a1 : decide (Pro.letAt L n ≤ 57) = false := decide_eq_false (by omega)
    have b1 : decide (byteAt s p ≤ 57) = false := decide_eq_false (by omega)
    rw [a1, b1, Bool.and_false, Bool.and_false]
theorem digb {b : Int} (h : Ref.digitB b = true) : 48 ≤ b ∧ b ≤ 57 := by unfold Ref.digitB at h; simpa using h
theorem countL_same : ∀ (f g : Nat) (c d : Int) (n p : Nat), Br s L n p → L.length < n + f → s.size < p + g → 0 ≤ d → c = min d 101 →
    (Pro.countL L f c n).1 = min (Ref.countL s g d (st0 p)).1 101 ∧ 0 ≤ (Ref.countL s g d (st0 p)).1 ∧ (Ref.countL s g d (st0 p)).2 = st0 (Ref.countL s g d (st0 p)).2.i ∧ Br s L (Pro.countL L f c n).2 (Ref.countL s g d (st0 p)).2.i ∧ p ≤ (Ref.countL s g d (st0 p)).2.i
  | 0, g, c, d, n, p, h, hf, hg, hd, hc => by have := h.le; omega
  | f + 1, 0, c, d, n, p, h, hf, hg, hd, hc => by have := h.good.le; omega
  | f + 1, g + 1, c, d, n, p, h, hf, hg, hd, hc => by
    have hds := dig_same h
    cases hb : Ref.digitB (byteAt s p)
    · rw [hb] at hds
      rw [Ref.countL_stop (st := st0 p) hb, Pro.countL_stop hds]
      exact ⟨hc, hd, rfl, h, Nat.le_refl _⟩
    · rw [hb] at hds
      have hx := digb hb
      have hl : Pro.letAt L n = byteAt s p := h.ascii (by omega)
      rw [Ref.countL_go (st := st0 p) hb, Pro.countL_go hds, hl, go0]
      have hi : (st0 p).i = p := rfl
      rw [hi]
      have := countL_same f g (min (c * 10 + (byteAt s p - 48)) 101) (if d ≤ 100 then 10 * d + byteAt s p - 48 else d) (n + 1) (p + 1) (h.next (by omega) (by omega)) (by omega) (by omega) (by split <;> omega) (by split <;> omega)
      exact ⟨this.1, this.2.1, this.2.2.1, this.2.2.2.1, by have := this.2.2.2.2; omega⟩
theorem count_same {n p : Nat} (h : Br s L n p) : Same s L (Pro.countO L (s.size : Nat) n) (Ref.countF s (st0 p)).1 (Ref.countF s (st0 p)).2 := by
  have hl := h.le
  have hg := h.good.le
  have hi : (st0 p).i = p := rfl
  have hc := countL_same (L.length + 1 - n) (s.size + 1 - p) 0 0 n p h (by omega) (by omega) (by omega) (by omega)
  have hN : Ref.countN s (st0 p) = Ref.countL s (s.size + 1 - p) 0 (st0 p) := rfl
  have hP : Pro.countP L n = Pro.countL L (L.length + 1 - n) 0 n := rfl
  have hds := dig_same h
  have hR := Ref.countF_eq (s := s) (st := st0 p) (n := (Ref.countN s (st0 p)).1) (st' := (Ref.countN s (st0 p)).2) rfl
  rw [hR, hN, hi]
  unfold Pro.countO
  rw [hP]
  cases hb : Ref.digitB (byteAt s p)
  · rw [hb] at hds
    have hz : Ref.countL s (s.size + 1 - p) 0 (st0 p) = (0, st0 p) := by rw [show s.size + 1 - p = (s.size - p) + 1 by omega]; exact Ref.countL_stop (st := st0 p) hb
    rw [if_pos hds, hz]
    rw [if_neg (show ¬ (100 : Int) < ((0 : Int), st0 p).1 from (by decide : ¬ (100 : Int) < 0)), if_pos (show ((0 : Int), st0 p).2.i = p from rfl)]
    show Same s L _ 0 ((st0 p).fail 3 p)
    rw [fail0]
    exact same_fault (by decide) rfl h.place.symm
  · rw [hb] at hds
    rw [if_neg (by simp [hds])]
    have hx := digb hb
    have hgt : p < (Ref.countL s (s.size + 1 - p) 0 (st0 p)).2.i := by
      rw [show s.size + 1 - p = (s.size - p) + 1 by omega, Ref.countL_go (st := st0 p) hb, go0]
      have := countL_same (L.length + 1 - (n + 1)) (s.size - p) (min (if (0 : Int) ≤ 100 then 10 * 0 + byteAt s (st0 p).i - 48 else 0) 101) (if (0 : Int) ≤ 100 then 10 * 0 + byteAt s (st0 p).i - 48 else 0) (n + 1) (p + 1) (h.next (by omega) (by omega)) (by have := h.lt.2 ((byteAt_nonneg s p).1 (by omega)); omega) (by have := (byteAt_nonneg s p).1 (by omega); omega) (by rw [if_pos (by decide), hi]; omega) rfl
      have := this.2.2.2.2
      omega
    generalize Ref.countL s (s.size + 1 - p) 0 (st0 p) = r at *
    generalize Pro.countL L (L.length + 1 - n) 0 n = t at *
    obtain ⟨e1, e2, e3, e4, e5⟩ := hc
    rw [e1]
    by_cases hbig : 100 < r.1
    · rw [if_pos (by omega), if_pos hbig, if_neg (by omega), e3, fail0]
      exact same_fault (by decide) rfl h.place.symm
    · rw [if_neg (by omega), if_neg hbig, if_neg (by omega), e3]
      exact ⟨fun _ => ⟨rfl, rfl, by show r.1 = min r.1 101; omega, e4⟩, fun hh => absurd rfl hh⟩

/-- Counts, and quantifiers: least, greatest, and where both stand. -/
def SameQ (s : ByteArray) (L : List (Int × Int)) (o : Pro.Out) (n : Nat) (mx : Int) (r : Int × Int × St) : Prop := (o.k = 0 → r.1 = o.v ∧ r.2.1 = mx ∧ r.2.2 = st0 r.2.2.i ∧ Br s L n r.2.2.i) ∧ (o.k ≠ 0 → r.2.2.e = (o.k : Int) ∧ r.2.2.a = o.p)
theorem counts_same {n p : Nat} (h : Br s L n p) (hb : byteAt s p = 123) : SameQ s L (Pro.countsO L (s.size : Nat) n).1 (Pro.countsO L (s.size : Nat) n).1.n (Pro.countsO L (s.size : Nat) n).2 (Ref.countsF s (st0 p)) := by
  have h1 := h.go hb (by omega) (by omega)
  have ha := count_same h1
  have hva := Pro.countO_in (L := L) (len := (s.size : Nat)) (n + 1) h1.le
  have hi : (st0 p).i = p := rfl
  unfold Pro.countsO Ref.countsF
  simp only []
  rw [go0, hi]
  by_cases hk : (Pro.countO L (s.size : Nat) (n + 1)).k = 0
  · obtain ⟨a1, a2, a3, a4⟩ := ha.1 hk
    have hst := st_eta a1 a2
    rw [if_neg (by simp [hk]), a3, hst]
    generalize (Ref.countF s (st0 (p + 1))).2.i = p1 at *
    generalize Pro.countO L (s.size : Nat) (n + 1) = A at *
    by_cases h125 : byteAt s p1 = 125
    · have e1 : Ref.restF s A.v (st0 p1) = (A.v, st0 p1) := by unfold Ref.restF; rw [if_neg (fun hh => by have : byteAt s p1 = 44 := hh.2; omega)]
      have e2 : Ref.braceF s (st0 p1) = st0 p1 := by unfold Ref.braceF; rw [if_neg (fun hh => hh.2 h125)]
      rw [if_pos ((a4.eqv 125 (by omega)).2 h125), e1, e2, go0, if_neg (by omega)]
      exact ⟨fun _ => ⟨rfl, rfl, rfl, a4.go h125 (by omega) (by omega)⟩, fun hh => absurd rfl hh⟩
    · rw [if_neg (fun hh => h125 ((a4.eqv 125 (by omega)).1 hh))]
      by_cases h44 : byteAt s p1 = 44
      · rw [if_neg (by simp; exact (a4.eqv 44 (by omega)).2 h44)]
        have b1 := a4.go h44 (by omega) (by omega)
        by_cases h3 : byteAt s (p1 + 1) = 125
        · have e1 : Ref.restF s A.v (st0 p1) = (-1, st0 (p1 + 1)) := by unfold Ref.restF; rw [if_pos ⟨rfl, h44⟩, if_pos (show byteAt s ((st0 p1).i + 1) = 125 from h3), go0]
          have e2 : Ref.braceF s (st0 (p1 + 1)) = st0 (p1 + 1) := by unfold Ref.braceF; rw [if_neg (fun hh => hh.2 h3)]
          rw [if_pos ((b1.eqv 125 (by omega)).2 h3), e1, e2, go0, if_neg (by omega)]
          exact ⟨fun _ => ⟨rfl, rfl, rfl, b1.go h3 (by omega) (by omega)⟩, fun hh => absurd rfl hh⟩
        · rw [if_neg (fun hh => h3 ((b1.eqv 125 (by omega)).1 hh))]
          have e1 : Ref.restF s A.v (st0 p1) = Ref.countF s (st0 (p1 + 1)) := by unfold Ref.restF; rw [if_pos ⟨rfl, h44⟩, if_neg (show ¬ byteAt s ((st0 p1).i + 1) = 125 from h3), go0]
          rw [e1]
          have hm := count_same b1
          have hvm := Pro.countO_in (L := L) (len := (s.size : Nat)) (A.n + 1) b1.le
          by_cases hk2 : (Pro.countO L (s.size : Nat) (A.n + 1)).k = 0
          · obtain ⟨c1, c2, c3, c4⟩ := hm.1 hk2
            have hst2 := st_eta c1 c2
            rw [if_neg (by simp [hk2]), c3, hst2]
            generalize (Ref.countF s (st0 (p1 + 1))).2.i = p2 at *
            generalize Pro.countO L (s.size : Nat) (A.n + 1) = M at *
            by_cases h4 : byteAt s p2 = 125
            · have e2 : Ref.braceF s (st0 p2) = st0 p2 := by unfold Ref.braceF; rw [if_neg (fun hh => hh.2 h4)]
              rw [if_neg (by simp; exact (c4.eqv 125 (by omega)).2 h4), e2, go0]
              by_cases h5 : M.v < A.v
              · rw [if_pos h5, if_pos ⟨rfl, hvm.2.2.1, h5⟩, fail0]
                exact ⟨fun hh => absurd hh (by simp [Pro.bad]), fun _ => ⟨rfl, h.place.symm⟩⟩
              · rw [if_neg h5, if_neg (fun hh => h5 hh.2.2)]
                exact ⟨fun _ => ⟨rfl, rfl, rfl, c4.go h4 (by omega) (by omega)⟩, fun hh => absurd rfl hh⟩
            · have e2 : Ref.braceF s (st0 p2) = ⟨p2, 3, p2⟩ := by unfold Ref.braceF; rw [if_pos ⟨rfl, h4⟩, fail0]; rfl
              rw [if_pos (fun hh => h4 ((c4.eqv 125 (by omega)).1 hh)), e2]
              rw [if_neg (fun hh => absurd hh.1 (show ¬ (3 : Int) = 0 by decide))]
              exact ⟨fun hh => absurd hh (by simp [Pro.bad]), fun _ => ⟨rfl, c4.place.symm⟩⟩
          · have he := hm.2 hk2
            have hne : (Ref.countF s (st0 (p1 + 1))).2.e ≠ 0 := by rw [he.1]; omega
            have e2 : Ref.braceF s (Ref.countF s (st0 (p1 + 1))).2 = (Ref.countF s (st0 (p1 + 1))).2 := by unfold Ref.braceF; rw [if_neg (fun hh => hne hh.1)]
            rw [if_pos hk2, e2, if_neg (fun hh => hne hh.1)]
            exact ⟨fun hh => absurd hh hk2, fun _ => he⟩
      · have e1 : Ref.restF s A.v (st0 p1) = (A.v, st0 p1) := by unfold Ref.restF; rw [if_neg (fun hh => h44 hh.2)]
        have e2 : Ref.braceF s (st0 p1) = ⟨p1, 3, p1⟩ := by unfold Ref.braceF; rw [if_pos ⟨rfl, h125⟩, fail0]; rfl
        rw [if_pos (fun hh => h44 ((a4.eqv 44 (by omega)).1 hh)), e1, e2]
        rw [if_neg (fun hh => absurd hh.1 (show ¬ (3 : Int) = 0 by decide))]
        exact ⟨fun hh => absurd hh (by simp [Pro.bad]), fun _ => ⟨rfl, a4.place.symm⟩⟩
  · have he := ha.2 hk
    have hne : (Ref.countF s (st0 (p + 1))).2.e ≠ 0 := by rw [he.1]; omega
    have e1 : Ref.restF s (Ref.countF s (st0 (p + 1))).1 (Ref.countF s (st0 (p + 1))).2 = ((Ref.countF s (st0 (p + 1))).1, (Ref.countF s (st0 (p + 1))).2) := by unfold Ref.restF; rw [if_neg (fun hh => hne hh.1)]
    have e2 : Ref.braceF s (Ref.countF s (st0 (p + 1))).2 = (Ref.countF s (st0 (p + 1))).2 := by unfold Ref.braceF; rw [if_neg (fun hh => hne hh.1)]
    rw [if_pos hk, e1, e2, if_neg (fun hh => hne hh.1)]
    exact ⟨fun hh => absurd hh hk, fun _ => he⟩
end Eqv
end Go.Proofs.YtdhmllobgijggaaGreatDoor
namespace Go.Proofs.YtdhmllobgijggaaGreatDoor
open Go.RowKit

namespace Eqv
variable {s : ByteArray} {L : List (Int × Int)}
theorem lazy_same {n p : Nat} (h : Br s L n p) : Ref.lazyF s (st0 p) = st0 (Ref.lazyF s (st0 p)).i ∧ Br s L (Pro.lazyN L n) (Ref.lazyF s (st0 p)).i := by
  unfold Ref.lazyF Pro.lazyN
  by_cases hb : byteAt s p = 63
  · rw [if_pos ⟨rfl, hb⟩, if_pos ((h.eqv 63 (by omega)).2 hb)]
    exact ⟨rfl, h.go hb (by omega) (by omega)⟩
  · rw [if_neg (fun hh => hb hh.2), if_neg (fun hh => hb ((h.eqv 63 (by omega)).1 hh))]
    exact ⟨rfl, h⟩
theorem quant_same {n p : Nat} (h : Br s L n p) (hq : Ref.quantB (byteAt s p) = true) : (Pro.quantO L (s.size : Nat) n).1 = true ∧ SameQ s L (Pro.quantO L (s.size : Nat) n).2.1 (Pro.lazyN L (Pro.quantO L (s.size : Nat) n).2.1.n) (Pro.quantO L (s.size : Nat) n).2.2 (Ref.quantF s (st0 p)) := by
  have hi : (st0 p).i = p := rfl
  have hc := Ref.quantB_cases hq
  have e42 := h.eqv 42 (by omega)
  have e43 := h.eqv 43 (by omega)
  have e63 := h.eqv 63 (by omega)
  have e123 := h.eqv 123 (by omega)
  unfold Pro.quantO Ref.quantF
  rw [hi]
  by_cases k1 : byteAt s p = 42
  · have hz := lazy_same (h.go k1 (by omega) (by omega))
    rw [if_pos (e42.2 k1), if_neg (by omega), if_neg (by omega), if_pos k1, go0]
    exact ⟨rfl, fun _ => ⟨rfl, rfl, hz.1, hz.2⟩, fun hh => absurd rfl hh⟩
  · by_cases k2 : byteAt s p = 43
    · have hz := lazy_same (h.go k2 (by omega) (by omega))
      rw [if_neg (fun hh => k1 (e42.1 hh)), if_pos (e43.2 k2), if_pos k2, go0]
      exact ⟨rfl, fun _ => ⟨rfl, rfl, hz.1, hz.2⟩, fun hh => absurd rfl hh⟩
    · by_cases k3 : byteAt s p = 63
      · have hz := lazy_same (h.go k3 (by omega) (by omega))
        rw [if_neg (fun hh => k1 (e42.1 hh)), if_neg (fun hh => k2 (e43.1 hh)), if_pos (e63.2 k3), if_neg k2, if_pos k3, go0]
        exact ⟨rfl, fun _ => ⟨rfl, rfl, hz.1, hz.2⟩, fun hh => absurd rfl hh⟩
      · have k4 : byteAt s p = 123 := by omega
        have hcs := counts_same h k4
        rw [if_neg (fun hh => k1 (e42.1 hh)), if_neg (fun hh => k2 (e43.1 hh)), if_neg (fun hh => k3 (e63.1 hh)), if_pos (e123.2 k4), if_neg k2, if_neg k3, if_neg k1]
        refine ⟨rfl, fun hk => ?_, fun hk => ?_⟩
        · obtain ⟨a1, a2, a3, a4⟩ := hcs.1 hk
          rw [a3]
          have hz := lazy_same a4
          exact ⟨a1, a2, hz.1, hz.2⟩
        · have he := hcs.2 hk
          have : Ref.lazyF s (Ref.countsF s (st0 p)).2.2 = (Ref.countsF s (st0 p)).2.2 := by unfold Ref.lazyF; rw [if_neg (fun hh => by have e1 := hh.1; have e2 := he.1; have : (Pro.countsO L (s.size : Nat) n).1.k ≠ 0 := hk; omega)]
          rw [this]
          exact he
theorem quant_none {n p : Nat} (h : Br s L n p) (hq : Ref.quantB (byteAt s p) = false) : Pro.quantO L (s.size : Nat) n = (false, Pro.good 0 n, 0) := by
  have e42 := h.eqv 42 (by omega)
  have e43 := h.eqv 43 (by omega)
  have e63 := h.eqv 63 (by omega)
  have e123 := h.eqv 123 (by omega)
  have hn : byteAt s p ≠ 42 ∧ byteAt s p ≠ 43 ∧ byteAt s p ≠ 63 ∧ byteAt s p ≠ 123 := by unfold Ref.quantB at hq; simpa [and_assoc] using hq
  unfold Pro.quantO
  rw [if_neg (fun hh => hn.1 (e42.1 hh)), if_neg (fun hh => hn.2.1 (e43.1 hh)), if_neg (fun hh => hn.2.2.1 (e63.1 hh)), if_neg (fun hh => hn.2.2.2 (e123.1 hh))]
theorem open_same {n p : Nat} (h : Br s L n p) (hb : byteAt s p = 40) : Same s L (Pro.openO L (s.size : Nat) n) 0 (Ref.openF s (st0 p)) := by
  have h1 := h.go hb (by omega) (by omega)
  have hi : (st0 p).i = p := rfl
  unfold Pro.openO Ref.openF
  rw [hi]
  by_cases k1 : byteAt s (p + 1) = 63
  · have h2 := h1.go k1 (by omega) (by omega)
    rw [if_pos ((h1.eqv 63 (by omega)).2 k1), if_pos k1]
    by_cases k2 : byteAt s (p + 2) = 58
    · rw [if_pos ((h2.eqv 58 (by omega)).2 k2), if_pos k2, go0]
      exact same_good (h2.go k2 (by omega) (by omega))
    · rw [if_neg (fun hh => k2 ((h2.eqv 58 (by omega)).1 hh)), if_neg k2]
      have a1 := h2.eqv 61 (by omega)
      have a2 := h2.eqv 33 (by omega)
      have a3 := h2.eqv 60 (by omega)
      by_cases k3 : byteAt s (p + 2) = 61 ∨ byteAt s (p + 2) = 33 ∨ byteAt s (p + 2) = 60
      · have k3' : Pro.letAt L (n + 2) = 61 ∨ Pro.letAt L (n + 2) = 33 ∨ Pro.letAt L (n + 2) = 60 := by
          rcases k3 with k | k | k
          · exact .inl (a1.2 k)
          · exact .inr (.inl (a2.2 k))
          · exact .inr (.inr (a3.2 k))
        rw [if_pos k3', if_pos k3, go0, fail0]
        exact same_fault (by decide) rfl h.place.symm
      · have k3' : ¬ (Pro.letAt L (n + 2) = 61 ∨ Pro.letAt L (n + 2) = 33 ∨ Pro.letAt L (n + 2) = 60) := fun hh => by
          rcases hh with k | k | k
          · exact k3 (.inl (a1.1 k))
          · exact k3 (.inr (.inl (a2.1 k)))
          · exact k3 (.inr (.inr (a3.1 k)))
        rw [if_neg k3', if_neg k3, go0, fail0]
        exact same_fault (by decide) rfl h2.place.symm
  · rw [if_neg (fun hh => k1 ((h1.eqv 63 (by omega)).1 hh)), if_neg k1, go0]
    exact same_good h1
end Eqv
end Go.Proofs.YtdhmllobgijggaaGreatDoor
