/- The reader's letters beside the lexer's bytes. The reader's escapes beside the lexer's. The reader's escapes beside the lexer's: whole. The reader's escapes and classes beside the lexer's. The reader's classes, counts and quantifiers beside the lexer's. -/
import Derived.Test.YtnagphodmfejiaaGreatDoorKRefTRefV
import Derived.Test.YtnagphodmfejiaaGreatDoorKProAProG
import Derived.Test.YtnagphodmfejiaaGreatDoorKParATrA
namespace Go.Proofs.YtnagphodmfejiaaGreatDoor
open Go.RowKit
namespace Eqv
def letF (s : ByteArray) : Nat → Nat → List (Int × Int)
 | 0, _ => []
 | f + 1, p => if p < s.size then (match Ref.oneF s p with
     | none => []
     | some (n, c) => ((p : Int), c) :: letF s f (p + n)) else []
structure Br (s : ByteArray) (L : List (Int × Int)) (n p : Nat) : Prop where
 good : Ref.Good s p
 le : n ≤ L.length
 rest : ∃ f, s.size < p + f ∧ L.drop n = letF s f p
theorem Br.step {s : ByteArray} {L : List (Int × Int)} {n p : Nat} (h : Br s L n p) (hp : p < s.size) : ∃ k c, Ref.oneF s p = some (k, c) ∧ L[n]? = some ((p : Int), c) ∧ Br s L (n + 1) (p + k) := by
 obtain ⟨k, c, ho, hg⟩ := h.good.next hp
 obtain ⟨f, hf, hd⟩ := h.rest
 obtain ⟨f, rfl⟩ : ∃ f', f = f' + 1 := ⟨f - 1, by omega⟩
 simp only [letF] at hd
 rw [if_pos hp, ho] at hd
 have hb := Ref.oneF_bd ho
 have hlt : n < L.length := by
   have : (L.drop n).length = L.length - n := List.length_drop
   rw [hd] at this
   simp only [List.length_cons] at this
   omega
 have hg0 : L[n]? = some ((p : Int), c) := by
   have : (L.drop n)[0]? = L[n + 0]? := List.getElem?_drop
   rw [hd] at this
   simpa using this.symm
 refine ⟨k, c, ho, hg0, hg, by omega, f, by omega, ?_⟩
 rw [← List.drop_drop, hd]
 rfl
theorem Br.stop {s : ByteArray} {L : List (Int × Int)} {n p : Nat} (h : Br s L n p) (hp : ¬ p < s.size) : n = L.length := by
 obtain ⟨f, hf, hd⟩ := h.rest
 have he : letF s f p = [] := by
   cases f with
   | zero => rfl
   | succ f => simp only [letF]; rw [if_neg hp]
 have : (L.drop n).length = L.length - n := List.length_drop
 rw [hd, he] at this
 simp only [List.length_nil] at this
 have := h.le
 omega
theorem Br.lt {s : ByteArray} {L : List (Int × Int)} {n p : Nat} (h : Br s L n p) : n < L.length ↔ p < s.size := by
 constructor
 · intro hn
   by_cases hp : p < s.size
   · exact hp
   · have := h.stop hp; omega
 · intro hp
   obtain ⟨k, c, _, hg, _⟩ := h.step hp
   by_cases hn : n < L.length
   · exact hn
   · rw [List.getElem?_eq_none (by omega)] at hg; cases hg
theorem Br.place {s : ByteArray} {L : List (Int × Int)} {n p : Nat} (h : Br s L n p) : Pro.placeAt L (s.size : Nat) n = p := by
 by_cases hp : p < s.size
 · obtain ⟨k, c, _, hg, _⟩ := h.step hp
   unfold Pro.placeAt; rw [hg]
 · have := h.stop hp
   rw [Pro.placeAt_out (by omega)]
   have := h.good.le
   omega
theorem one_low {s : ByteArray} {p k : Nat} {c : Int} (ho : Ref.oneF s p = some (k, c)) (hb : byteAt s p < 128) : k = 1 ∧ c = byteAt s p := by
 have h1 : Ref.headK (byteAt s p) = 1 := by unfold Ref.headK Ref.headN; rw [if_pos hb]; rfl
 have h2 : Ref.headC (byteAt s p) = byteAt s p := by unfold Ref.headC; rw [if_pos hb]
 have hk := (Ref.oneF_bd ho).2.2.2.1
 refine ⟨by omega, ?_⟩
 unfold Ref.oneF at ho
 split at ho
 · cases ho
 · rw [h1, h2] at ho
   simp only [Nat.sub_self, Ref.contF] at ho
   split at ho
   · cases ho
   · simp only [Option.some.injEq, Prod.mk.injEq] at ho
     exact ho.2.symm
theorem one_high {s : ByteArray} {p k : Nat} {c : Int} (ho : Ref.oneF s p = some (k, c)) (hb : 128 ≤ byteAt s p) : 128 ≤ c := by
 have hbd := Ref.oneF_bd ho
 have hk : k ≠ 1 := by
   rw [hbd.2.2.2.1]
   unfold Ref.headK Ref.headN
   rw [if_neg (by omega)]
   (repeat' split) <;> decide
 unfold Ref.oneF at ho
 split at ho
 · cases ho
 · split at ho
   · cases ho
   · split at ho
     · cases ho
     · rename_i hbad
       simp only [Option.some.injEq, Prod.mk.injEq] at ho
       obtain ⟨hk1, rfl⟩ := ho
       simp only [Ref.badC, Bool.or_eq_true, Bool.and_eq_true, decide_eq_true_eq] at hbad
       rw [hk1] at hbad
       have : 128 ≤ Ref.leastV (k : Int) := by
         have h4 := hbd.2.2.1
         have h1 := hbd.1
         have : k = 2 ∨ k = 3 ∨ k = 4 := by omega
         rcases this with rfl | rfl | rfl <;> decide
       omega
theorem Br.letter {s : ByteArray} {L : List (Int × Int)} {n p k : Nat} {c : Int} (h : Br s L n p) (hp : p < s.size) (ho : Ref.oneF s p = some (k, c)) : Pro.letAt L n = c ∧ Br s L (n + 1) (p + k) := by
 obtain ⟨k', c', ho', hg, hn⟩ := h.step hp
 rw [ho] at ho'
 simp only [Option.some.injEq, Prod.mk.injEq] at ho'
 obtain ⟨rfl, rfl⟩ := ho'
 exact ⟨by unfold Pro.letAt; rw [hg], hn⟩
theorem Br.ascii {s : ByteArray} {L : List (Int × Int)} {n p : Nat} (h : Br s L n p) (hb : byteAt s p < 128) : Pro.letAt L n = byteAt s p := by
 by_cases hp : p < s.size
 · obtain ⟨k, c, ho, hg, _⟩ := h.step hp
   unfold Pro.letAt; rw [hg]
   exact (one_low ho hb).2
 · have := h.stop hp
   rw [Pro.letAt_out (by omega), byteAt_out s p (by omega)]
theorem Br.high {s : ByteArray} {L : List (Int × Int)} {n p : Nat} (h : Br s L n p) (hb : 128 ≤ byteAt s p) : 128 ≤ Pro.letAt L n := by
 have hp : p < s.size := (byteAt_nonneg s p).1 (by omega)
 obtain ⟨k, c, ho, hg, _⟩ := h.step hp
 unfold Pro.letAt; rw [hg]
 exact one_high ho hb
theorem Br.alike {s : ByteArray} {L : List (Int × Int)} {n p : Nat} (h : Br s L n p) : (Pro.letAt L n = byteAt s p ∧ byteAt s p < 128) ∨ (128 ≤ Pro.letAt L n ∧ 128 ≤ byteAt s p) := by
 by_cases hb : byteAt s p < 128
 · exact .inl ⟨h.ascii hb, hb⟩
 · exact .inr ⟨h.high (by omega), by omega⟩
theorem Br.next {s : ByteArray} {L : List (Int × Int)} {n p : Nat} (h : Br s L n p) (h0 : 0 ≤ byteAt s p) (hb : byteAt s p < 128) : Br s L (n + 1) (p + 1) := by
 have hp : p < s.size := (byteAt_nonneg s p).1 h0
 obtain ⟨k, c, ho, hg, hn⟩ := h.step hp
 obtain ⟨rfl, _⟩ := one_low ho hb
 exact hn
theorem Br.hexV {s : ByteArray} {L : List (Int × Int)} {n p : Nat} (h : Br s L n p) : Pro.hexV (Pro.letAt L n) = Ref.hexV (byteAt s p) := by
 have : Pro.hexV = Ref.hexV := rfl
 rw [this]
 rcases h.alike with ⟨e, _⟩ | ⟨h1, h2⟩
 · rw [e]
 · unfold Ref.hexV
   rw [if_neg (by omega), if_neg (by omega), if_neg (by omega), if_neg (by omega), if_neg (by omega), if_neg (by omega)]
theorem Br.start {s : ByteArray} (h : Ref.Good s 0) : Br s (letF s (s.size + 1) 0) 0 0 := ⟨h, by omega, s.size + 1, by omega, rfl⟩
def Same (s : ByteArray) (L : List (Int × Int)) (o : Pro.Out) (v : Int) (st : St) : Prop :=
 (o.k = 0 → st.e = 0 ∧ st.a = 0 ∧ v = o.v ∧ Br s L o.n st.i) ∧ (o.k ≠ 0 → st.e = (o.k : Int) ∧ st.a = o.p)
end Eqv
namespace Eqv
variable {s : ByteArray} {L : List (Int × Int)}
theorem Br.eqv {n p : Nat} (h : Br s L n p) (k : Int) (hk : k < 128) : Pro.letAt L n = k ↔ byteAt s p = k := by
 rcases h.alike with ⟨e, _⟩ | ⟨h1, h2⟩
 · rw [e]
 · constructor <;> intro hh <;> omega
theorem Br.go {n p : Nat} (h : Br s L n p) {k : Int} (hb : byteAt s p = k) (h0 : 0 ≤ k) (h1 : k < 128) : Br s L (n + 1) (p + 1) := h.next (by omega) (by omega)
def st0 (p : Nat) : St := ⟨p, 0, 0⟩
theorem fail0 (p : Nat) (e a : Int) : (st0 p).fail e a = ⟨p, e, a⟩ := by unfold st0 St.fail; rw [if_pos rfl]
theorem go0 (p k : Nat) : (st0 p).go k = st0 (p + k) := rfl
theorem same_fault {k n : Nat} {q : Int} {v : Int} {st : St} (hk : k ≠ 0) (he : st.e = (k : Int)) (ha : st.a = q) : Same s L (Pro.bad k q n) v st := ⟨fun h => absurd h hk, fun _ => ⟨he, ha⟩⟩
theorem same_good {v : Int} {n p : Nat} (h : Br s L n p) : Same s L (Pro.good v n) v (st0 p) := ⟨fun _ => ⟨rfl, rfl, rfl, h⟩, fun h => absurd rfl h⟩
theorem hex_same : ∀ (f : Nat) (c : Int) (n p : Nat), Br s L n p → Same s L (Pro.hexO L (s.size : Nat) f c n) (Ref.hexF s f c (st0 p)).1 (Ref.hexF s f c (st0 p)).2
 | 0, c, n, p, h => same_good h
 | f + 1, c, n, p, h => by
   by_cases hb : Ref.hexV (byteAt s p) < 0
   · rw [Ref.hexF_bad (st := st0 p) hb, Pro.hexO_bad (by rw [h.hexV]; exact hb), fail0]
     exact same_fault (by decide) rfl h.place.symm
   · have hb0 : 0 ≤ Ref.hexV (byteAt s p) := by omega
     rw [Ref.hexF_good (st := st0 p) hb0, Pro.hexO_good (by rw [h.hexV]; exact hb0), h.hexV, go0]
     have hx : 48 ≤ byteAt s p ∧ byteAt s p ≤ 102 := by unfold Ref.hexV at hb0; (repeat' split at hb0) <;> omega
     exact hex_same f _ (n + 1) (p + 1) (h.next (by omega) (by omega))
theorem hexd {b : Int} (h : 0 ≤ Ref.hexV b) : 48 ≤ b ∧ b ≤ 102 := by unfold Ref.hexV at h; (repeat' split at h) <;> omega
theorem braced_same : ∀ (f g : Nat) (c : Int) (d n p : Nat), Br s L n p → L.length < n + f → s.size < p + g → Same s L (Pro.bracedO L (s.size : Nat) f c d n) (Ref.bracedF s g c d (st0 p)).1 (Ref.bracedF s g c d (st0 p)).2
 | 0, g, c, d, n, p, h, hf, hg => by have := h.le; omega
 | f + 1, 0, c, d, n, p, h, hf, hg => by have := h.good.le; omega
 | f + 1, g + 1, c, d, n, p, h, hf, hg => by
   by_cases hc : 0 < d ∧ byteAt s p = 125
   · rw [Ref.bracedF_close (st := st0 p) hc.1 hc.2, Pro.bracedO_close hc.1 ((h.eqv 125 (by omega)).2 hc.2), go0]
     exact same_good (h.go hc.2 (by omega) (by omega))
   · have hc' : ¬ (0 < d ∧ Pro.letAt L n = 125) := fun hh => hc ⟨hh.1, (h.eqv 125 (by omega)).1 hh.2⟩
     by_cases hb : Ref.hexV (byteAt s p) < 0 ∨ 1114111 < 16 * c + Ref.hexV (byteAt s p)
     · rw [Ref.bracedF_bad (st := st0 p) hc hb, Pro.bracedO_bad hc' (by rw [h.hexV]; exact hb), fail0]
       exact same_fault (by decide) rfl h.place.symm
     · rw [Ref.bracedF_good (st := st0 p) hc hb, Pro.bracedO_good hc' (by rw [h.hexV]; exact hb), h.hexV, go0]
       have hx := hexd (b := byteAt s p) (by omega)
       have hn := h.next (by omega) (by omega)
       exact braced_same f g _ (d + 1) (n + 1) (p + 1) hn (by omega) (by omega)
theorem half_same : ∀ (f : Nat) (c : Int) (n p : Nat), Br s L n p → ((Pro.hexO L (s.size : Nat) f c n).k = 0 → Ref.halfD s f p c = (Pro.hexO L (s.size : Nat) f c n).v ∧ Br s L (Pro.hexO L (s.size : Nat) f c n).n (p + f)) ∧ ((Pro.hexO L (s.size : Nat) f c n).k ≠ 0 → Ref.halfD s f p c = -1)
 | 0, c, n, p, h => ⟨fun _ => ⟨rfl, h⟩, fun hk => absurd rfl hk⟩
 | f + 1, c, n, p, h => by
   by_cases hb : Ref.hexV (byteAt s p) < 0
   · rw [Ref.halfD_bad hb, Pro.hexO_bad (by rw [h.hexV]; exact hb)]
     exact ⟨fun hk => absurd hk (by simp [Pro.bad]), fun _ => rfl⟩
   · have hb0 : 0 ≤ Ref.hexV (byteAt s p) := by omega
     rw [Ref.halfD_good hb0, Pro.hexO_good (by rw [h.hexV]; exact hb0), h.hexV]
     have hx := hexd hb0
     have := half_same f (16 * c + Ref.hexV (byteAt s p)) (n + 1) (p + 1) (h.next (by omega) (by omega))
     rw [show p + (f + 1) = p + 1 + f by omega]
     exact this
theorem half_at {n p : Nat} (h : Br s L n p) (h1 : byteAt s p = 92) (h2 : byteAt s (p + 1) = 117) : Ref.halfF s p = (if (Pro.hexO L (s.size : Nat) 4 0 (n + 2)).k = 0 then (Pro.hexO L (s.size : Nat) 4 0 (n + 2)).v else -1) := by
 have hb := (h.go h1 (by omega) (by omega)).go h2 (by omega) (by omega)
 have hh := half_same 4 0 (n + 2) (p + 2) hb
 by_cases hk : (Pro.hexO L (s.size : Nat) 4 0 (n + 2)).k = 0
 · rw [if_pos hk]
   have := (hh.1 hk).2.good.le
   rw [Ref.halfF_yes (by omega)]
   exact (hh.1 hk).1
 · rw [if_neg hk]
   by_cases hsz : s.size < p + 6 ∨ byteAt s p ≠ 92 ∨ byteAt s (p + 1) ≠ 117
   · exact Ref.halfF_no hsz
   · rw [Ref.halfF_yes hsz]; exact hh.2 hk
theorem low_same {n p : Nat} (h : Br s L n p) : Pro.lowV L (s.size : Nat) n = (if 56320 ≤ Ref.halfF s p ∧ Ref.halfF s p ≤ 57343 then Ref.halfF s p else -1) := by
 by_cases h1 : byteAt s p = 92
 · have hb := h.go h1 (by omega) (by omega)
   by_cases h2 : byteAt s (p + 1) = 117
   · rw [half_at h h1 h2]
     unfold Pro.lowV
     have e1 := (h.eqv 92 (by omega)).2 h1
     have e2 := (hb.eqv 117 (by omega)).2 h2
     by_cases hk : (Pro.hexO L (s.size : Nat) 4 0 (n + 2)).k = 0
     · simp only [if_pos hk]
       by_cases hr : 56320 ≤ (Pro.hexO L (s.size : Nat) 4 0 (n + 2)).v ∧ (Pro.hexO L (s.size : Nat) 4 0 (n + 2)).v ≤ 57343
       · rw [if_pos ⟨e1, e2, hk, hr.1, hr.2⟩, if_pos hr]
       · rw [if_neg (fun hh => hr ⟨hh.2.2.2.1, hh.2.2.2.2⟩), if_neg hr]
     · simp only [if_neg hk]
       rw [if_neg (fun hh => hk hh.2.2.1), if_neg (by omega)]
   · rw [Ref.halfF_no (.inr (.inr h2)), if_neg (by omega)]
     unfold Pro.lowV
     rw [if_neg (fun hh => h2 ((hb.eqv 117 (by omega)).1 hh.2.1))]
 · rw [Ref.halfF_no (.inr (.inl h1)), if_neg (by omega)]
   unfold Pro.lowV
   rw [if_neg (fun hh => h1 ((h.eqv 92 (by omega)).1 hh.1))]
end Eqv
end Go.Proofs.YtnagphodmfejiaaGreatDoor
namespace Go.Proofs.YtnagphodmfejiaaGreatDoor
open Go.RowKit
namespace Eqv
variable {s : ByteArray} {L : List (Int × Int)}
theorem sign_high {x : Int} (h : 128 ≤ x) : Pro.sign x = false := by unfold Pro.sign; simp; omega
theorem sign_same (x : Int) : Pro.sign x = Ref.signB x := rfl
theorem ctl_same (x : Int) : Pro.ctlV x = Ref.controlV x := rfl
theorem ctl_high {x : Int} (h : 128 ≤ x) : ¬ 0 ≤ Pro.ctlV x := by unfold Pro.ctlV; (repeat' split) <;> omega
theorem short_high {x : Int} (h : 128 ≤ x) : Pro.shortB x = false := by unfold Pro.shortB; simp [sign_high h, ctl_high h]
theorem sign_cases {x : Int} (h : Pro.sign x = true) : 36 ≤ x ∧ x ≤ 125 ∧ x ≠ 48 ∧ x ≠ 99 ∧ x ≠ 120 ∧ x ≠ 117 := by unfold Pro.sign at h; simp at h; omega
theorem ctl_cases {x : Int} (h : 0 ≤ Pro.ctlV x) : x = 116 ∨ x = 110 ∨ x = 118 ∨ x = 102 ∨ x = 114 := by unfold Pro.ctlV at h; (repeat' split at h) <;> omega
theorem unicode_same {m q : Nat} (h : Br s L m q) (h92 : byteAt s q = 92) (h117 : byteAt s (q + 1) = 117) :
   Same s L (if Pro.letAt L (m + 2) = 123 then Pro.bracedP L (s.size : Nat) (m + 3) else Pro.unicodeO L (s.size : Nat) (m + 2)) (Ref.unicodeF s (st0 (q + 1))).1 (Ref.unicodeF s (st0 (q + 1))).2 := by
 have h1 := h.go h92 (by omega) (by omega)
 have h2 := h1.go h117 (by omega) (by omega)
 by_cases h123 : byteAt s (q + 2) = 123
 · have h3 := h2.go h123 (by omega) (by omega)
   rw [if_pos ((h2.eqv 123 (by omega)).2 h123)]
   unfold Ref.unicodeF
   rw [if_pos (show byteAt s ((st0 (q + 1)).i + 1) = 123 from h123)]
   unfold Ref.bracedR Pro.bracedP
   have hl := h3.le
   have hg := h3.good.le
   exact braced_same _ _ 0 0 (m + 3) (q + 3) h3 (by omega) (by show s.size < q + 3 + (s.size + 1 - (q + 1 + 2)); omega)
 · rw [if_neg (fun hh => h123 ((h2.eqv 123 (by omega)).1 hh))]
   unfold Ref.unicodeF
   rw [if_neg (show ¬ byteAt s ((st0 (q + 1)).i + 1) = 123 from h123)]
   have hf := half_at h h92 h117
   have hh := half_same 4 0 (m + 2) (q + 2) h2
   have hx := hex_same (s := s) (L := L) 4 0 (m + 2) (q + 2) h2
   have e1 : Ref.halfF s ((st0 (q + 1)).i - 1) = Ref.halfF s q := rfl
   have e2 : Ref.halfF s ((st0 (q + 1)).i + 5) = Ref.halfF s (q + 6) := rfl
   by_cases hk : (Pro.hexO L (s.size : Nat) 4 0 (m + 2)).k = 0
   · have hb := (hh.1 hk).2
     have hn := (Pro.hexO_n L (s.size : Nat) 4 0 (m + 2) h2.le).2.2 hk
     have hb' : Br s L (m + 6) (q + 6) := by rw [hn] at hb; exact hb
     have hlow := low_same hb'
     rw [if_pos hk] at hf
     by_cases hr : 55296 ≤ (Pro.hexO L (s.size : Nat) 4 0 (m + 2)).v ∧ (Pro.hexO L (s.size : Nat) 4 0 (m + 2)).v ≤ 56319
     · by_cases hl : 56320 ≤ Ref.halfF s (q + 6) ∧ Ref.halfF s (q + 6) ≤ 57343
       · have hp : Ref.pairB s (st0 (q + 1)) = true := by unfold Ref.pairB; rw [e1, e2, hf]; simp [hr.1, hr.2, hl.1, hl.2]
         rw [if_pos hl] at hlow
         rw [if_pos hp, e1, e2, hf]
         have hu : Pro.unicodeO L (s.size : Nat) (m + 2) = Pro.good (65536 + ((Pro.hexO L (s.size : Nat) 4 0 (m + 2)).v - 55296) * 1024 + (Ref.halfF s (q + 6) - 56320)) (m + 6 + 6) := by
           unfold Pro.unicodeO
           rw [if_neg (by omega), hn, show m + 2 + 4 = m + 6 by omega, hlow, if_pos (by omega)]
         rw [hu]
         have hlo : 0 ≤ Pro.lowV L (s.size : Nat) (m + 6) := by rw [hlow]; omega
         have h92' : byteAt s (q + 6) = 92 ∧ byteAt s (q + 7) = 117 := by
           by_cases hn92 : s.size < q + 6 + 6 ∨ byteAt s (q + 6) ≠ 92 ∨ byteAt s (q + 6 + 1) ≠ 117
           · rw [Ref.halfF_no hn92] at hl; omega
           · have e : q + 6 + 1 = q + 7 := rfl
             rw [e] at hn92
             exact ⟨Classical.byContradiction fun hh => hn92 (.inr (.inl hh)), Classical.byContradiction fun hh => hn92 (.inr (.inr hh))⟩
         have hbb := (hb'.go h92'.1 (by omega) (by omega)).go h92'.2 (by omega) (by omega)
         have hh2 := half_same 4 0 (m + 6 + 2) (q + 6 + 2) hbb
         have hk2 : (Pro.hexO L (s.size : Nat) 4 0 (m + 6 + 2)).k = 0 := by
           by_cases hk2 : (Pro.hexO L (s.size : Nat) 4 0 (m + 6 + 2)).k = 0
           · exact hk2
           · have := half_at hb' h92'.1 h92'.2
             rw [if_neg hk2] at this
             omega
         have hend := (hh2.1 hk2).2
         have hn2 := (Pro.hexO_n L (s.size : Nat) 4 0 (m + 6 + 2) hbb.le).2.2 hk2
         rw [hn2] at hend
         rw [go0]
         refine ⟨fun _ => ⟨rfl, rfl, ?_, hend⟩, fun h => absurd rfl h⟩
         show 65536 + (_ - 55296) * 1024 + Ref.halfF s (q + 6) - 56320 = 65536 + (_ - 55296) * 1024 + (Ref.halfF s (q + 6) - 56320)
         omega
       · have hp : ¬ Ref.pairB s (st0 (q + 1)) = true := by unfold Ref.pairB; rw [e1, e2]; simp; intro _ _; omega
         rw [if_neg hl] at hlow
         rw [if_neg hp]
         have hu : Pro.unicodeO L (s.size : Nat) (m + 2) = Pro.hexO L (s.size : Nat) 4 0 (m + 2) := by
           unfold Pro.unicodeO
           rw [if_neg (by omega), hn, show m + 2 + 4 = m + 6 by omega, hlow, if_neg (by omega)]
         rw [hu]
         exact hx
     · have hp : ¬ Ref.pairB s (st0 (q + 1)) = true := by unfold Ref.pairB; rw [e1, hf]; simp; omega
       rw [if_neg hp]
       have hu : Pro.unicodeO L (s.size : Nat) (m + 2) = Pro.hexO L (s.size : Nat) 4 0 (m + 2) := by
         unfold Pro.unicodeO
         rw [if_pos (by omega)]
       rw [hu]
       exact hx
   · rw [if_neg hk] at hf
     have hp : ¬ Ref.pairB s (st0 (q + 1)) = true := by unfold Ref.pairB; rw [e1, hf]; simp
     rw [if_neg hp]
     have hu : Pro.unicodeO L (s.size : Nat) (m + 2) = Pro.hexO L (s.size : Nat) 4 0 (m + 2) := by
       unfold Pro.unicodeO
       rw [if_pos (.inl hk)]
     rw [hu]
     exact hx
end Eqv
end Go.Proofs.YtnagphodmfejiaaGreatDoor
namespace Go.Proofs.YtnagphodmfejiaaGreatDoor
open Go.RowKit
namespace Eqv
variable {s : ByteArray} {L : List (Int × Int)}
theorem num_same (cls : Bool) {m q : Nat} (h : Br s L m q) (h92 : byteAt s q = 92) (hcl : cls = true → byteAt s (q + 1) ≠ 45 ∧ byteAt s (q + 1) ≠ 98) :
   Same s L (Pro.numO L (s.size : Nat) (m + 1)) (Ref.numberF s cls (st0 (q + 1))).1 (Ref.numberF s cls (st0 (q + 1))).2 := by
 have h1 := h.go h92 (by omega) (by omega)
 have hi : (st0 (q + 1)).i = q + 1 := rfl
 have hbad : ∀ (hs : Pro.shortB (Pro.letAt L (m + 1)) = false) (k1 : byteAt s (q + 1) ≠ 48) (k2 : byteAt s (q + 1) ≠ 99) (k3 : byteAt s (q + 1) ≠ 120) (k4 : byteAt s (q + 1) ≠ 117) (hc : ¬ 0 ≤ Ref.controlV (byteAt s (q + 1))) (hg : Ref.signB (byteAt s (q + 1)) = false),
     Same s L (Pro.numO L (s.size : Nat) (m + 1)) (Ref.numberF s cls (st0 (q + 1))).1 (Ref.numberF s cls (st0 (q + 1))).2 := by
   intro hs k1 k2 k3 k4 hc hg
   have n1 := fun e => k1 ((h1.eqv 48 (by omega)).1 e)
   have n2 := fun e => k2 ((h1.eqv 99 (by omega)).1 e)
   have n3 := fun e => k3 ((h1.eqv 120 (by omega)).1 e)
   have n4 := fun e => k4 ((h1.eqv 117 (by omega)).1 e)
   unfold Pro.numO Ref.numberF
   rw [hi, if_neg (by simp [hs]), if_neg n1, if_neg n2, if_neg n3, if_neg (fun hh => n4 hh.1), if_neg n4, if_neg hc, if_neg k1, if_neg k2, if_neg k3, if_neg k4, if_neg (by
     rintro (hh | ⟨hh, he⟩)
     · rw [hg] at hh; cases hh
     · exact (hcl hh).1 he), if_neg (fun hh => (hcl hh.1).2 hh.2), fail0]
   exact same_fault (by decide) rfl h1.place.symm
 rcases h1.alike with ⟨e, hb⟩ | ⟨hhi, hbi⟩
 · cases hs : Pro.shortB (Pro.letAt L (m + 1))
   · have hc : ¬ 0 ≤ Ref.controlV (byteAt s (q + 1)) := by rw [e] at hs; unfold Pro.shortB at hs; simp at hs; rw [← ctl_same]; omega
     have hg : Ref.signB (byteAt s (q + 1)) = false := by rw [e] at hs; unfold Pro.shortB at hs; simp at hs; exact hs.2
     by_cases k1 : byteAt s (q + 1) = 48
     · have h2 := h1.go k1 (by omega) (by omega)
       unfold Pro.numO Ref.numberF
       rw [hi, if_neg (by simp [hs]), if_pos ((h1.eqv 48 (by omega)).2 k1), if_neg hc, if_pos k1]
       unfold Pro.zeroO Pro.dig
       rcases h2.alike with ⟨e2, hb2⟩ | ⟨hh2, hb2⟩
       · rw [e2]
         by_cases hd : 48 ≤ byteAt s (q + 1 + 1) ∧ byteAt s (q + 1 + 1) ≤ 57
         · rw [if_pos (by simp [hd.1, hd.2]), if_pos hd, go0, fail0]
           exact same_fault (by decide) rfl h2.place.symm
         · rw [if_neg (by simp; omega), if_neg hd, go0]
           exact same_good h2
       · rw [if_neg (by simp; omega), if_neg (by omega), go0]
         exact same_good h2
     · by_cases k2 : byteAt s (q + 1) = 99
       · have h2 := h1.go k2 (by omega) (by omega)
         unfold Pro.numO Ref.numberF
         rw [hi, if_neg (by simp [hs]), if_neg (by rw [e]; exact k1), if_pos ((h1.eqv 99 (by omega)).2 k2), if_neg hc, if_neg k1, if_pos k2]
         unfold Pro.controlO
         rcases h2.alike with ⟨e2, hb2⟩ | ⟨hh2, hb2⟩
         · rw [e2]
           by_cases hd : (97 ≤ byteAt s (q + 1 + 1) ∧ byteAt s (q + 1 + 1) ≤ 122) ∨ (65 ≤ byteAt s (q + 1 + 1) ∧ byteAt s (q + 1 + 1) ≤ 90)
           · rw [if_pos (show Pro.letter _ from hd), if_pos hd, go0]
             exact same_good (h2.next (by omega) (by omega))
           · rw [if_neg (show ¬ Pro.letter _ from hd), if_neg hd, go0, fail0]
             exact same_fault (by decide) rfl h2.place.symm
         · rw [if_neg (show ¬ Pro.letter _ by unfold Pro.letter; omega), if_neg (by omega), go0, fail0]
           exact same_fault (by decide) rfl h2.place.symm
       · by_cases k3 : byteAt s (q + 1) = 120
         · have h2 := h1.go k3 (by omega) (by omega)
           unfold Pro.numO Ref.numberF
           rw [hi, if_neg (by simp [hs]), if_neg (by rw [e]; exact k1), if_neg (by rw [e]; exact k2), if_pos ((h1.eqv 120 (by omega)).2 k3), if_neg hc, if_neg k1, if_neg k2, if_pos k3, go0]
           exact hex_same 2 0 (m + 2) (q + 2) h2
         · by_cases k4 : byteAt s (q + 1) = 117
           · have hu := unicode_same h h92 k4
             unfold Pro.numO Ref.numberF
             rw [hi, if_neg (by simp [hs]), if_neg (by rw [e]; exact k1), if_neg (by rw [e]; exact k2), if_neg (by rw [e]; exact k3), if_neg hc, if_neg k1, if_neg k2, if_neg k3, if_pos k4]
             have e117 := (h1.eqv 117 (by omega)).2 k4
             by_cases h123 : Pro.letAt L (m + 2) = 123
             · rw [if_pos h123] at hu
               rw [if_pos ⟨e117, h123⟩]
               exact hu
             · rw [if_neg h123] at hu
               rw [if_neg (fun hh => h123 hh.2), if_pos e117]
               exact hu
           · exact hbad hs k1 k2 k3 k4 hc hg
   · unfold Pro.numO Ref.numberF
     rw [hi, if_pos hs, e]
     by_cases hc : 0 ≤ Ref.controlV (byteAt s (q + 1))
     · have hcs := ctl_cases hc
       rw [if_pos hc, go0]
       have : Pro.shortV (byteAt s (q + 1)) = Ref.controlV (byteAt s (q + 1)) := by unfold Pro.shortV; rw [if_pos (show 0 ≤ Pro.ctlV _ from hc)]; rfl
       rw [this]
       exact same_good (h1.next (by omega) (by omega))
     · have hg : Pro.sign (byteAt s (q + 1)) = true := by rw [e] at hs; unfold Pro.shortB at hs; simp at hs; rcases hs with hs | hs; exact absurd hs hc; exact hs
       have hcs := sign_cases hg
       rw [if_neg hc, if_neg hcs.2.2.1, if_neg hcs.2.2.2.1, if_neg hcs.2.2.2.2.1, if_neg hcs.2.2.2.2.2, if_pos (.inl hg), go0]
       have : Pro.shortV (byteAt s (q + 1)) = byteAt s (q + 1) := by unfold Pro.shortV; rw [if_neg (show ¬ 0 ≤ Pro.ctlV _ from hc)]
       rw [this]
       exact same_good (h1.next (by omega) (by omega))
 · exact hbad (short_high hhi) (by omega) (by omega) (by omega) (by omega) (by rw [← ctl_same]; exact ctl_high hbi) (by rw [← sign_same]; exact sign_high hbi)
theorem set_same (x : Int) : Pro.setB x = true ↔ Ref.setL x ≠ [] := by
 unfold Pro.setB Ref.setL
 simp only [List.any_cons, List.any_nil, Bool.or_false, Bool.or_eq_true, decide_eq_true_eq]
 constructor
 · intro h
   (repeat' split) <;> first | (intro hh; cases hh; done) | omega
 · intro h
   (repeat' split at h) <;> first | omega | exact absurd rfl h
theorem back_same (x : Int) : Pro.backB x = Ref.backB x := by
 have : (Pro.backB x = true) ↔ (Ref.backB x = true) := by
   unfold Pro.backB Ref.backB
   simp
   omega
 cases h1 : Pro.backB x <;> cases h2 : Ref.backB x <;> simp_all
theorem set_high {x : Int} (h : 128 ≤ x ∨ x < 0) : Pro.setB x = false := by unfold Pro.setB; simp; omega
theorem back_high {x : Int} (h : 128 ≤ x ∨ x < 0) : Pro.backB x = false := by unfold Pro.backB; simp; omega
theorem set_back {x : Int} (h : Pro.setB x = true) : Pro.backB x = false ∧ 68 ≤ x ∧ x ≤ 119 ∧ x ≠ 98 ∧ x ≠ 45 := by unfold Pro.setB at h; unfold Pro.backB; simp at h ⊢; omega
theorem esc_same (cls : Bool) {m q : Nat} (h : Br s L m q) (h92 : byteAt s q = 92) (hcl : cls = true → byteAt s (q + 1) ≠ 45 ∧ byteAt s (q + 1) ≠ 98) :
   Same s L (Pro.escO L (s.size : Nat) m) (Pro.escO L (s.size : Nat) m).v (Ref.escapeF s cls (st0 q)).2.2 ∧ ((Pro.escO L (s.size : Nat) m).k = 0 → (Ref.escapeF s cls (st0 q)).2.1 = !Pro.setB (Pro.letAt L (m + 1)) ∧ ((Ref.escapeF s cls (st0 q)).2.1 = true → (Ref.escapeF s cls (st0 q)).1 = ⟨false, [((Pro.escO L (s.size : Nat) m).v, (Pro.escO L (s.size : Nat) m).v)]⟩)) := by
 have h1 := h.go h92 (by omega) (by omega)
 have hi : (st0 q).i = q := rfl
 have hset : Pro.setB (Pro.letAt L (m + 1)) = Pro.setB (byteAt s (q + 1)) := by
   rcases h1.alike with ⟨e, _⟩ | ⟨a, b⟩
   · rw [e]
   · rw [set_high (.inl a), set_high (.inl b)]
 have hback : Pro.backB (Pro.letAt L (m + 1)) = Ref.backB (byteAt s (q + 1)) := by
   rw [← back_same]
   rcases h1.alike with ⟨e, _⟩ | ⟨a, b⟩
   · rw [e]
   · rw [back_high (.inl a), back_high (.inl b)]
 cases hs : Pro.setB (byteAt s (q + 1))
 · have hs' : ¬ Ref.setL (byteAt s (q + 1)) ≠ [] := fun hh => by rw [(set_same _).2 hh] at hs; cases hs
   cases hb : Ref.backB (byteAt s (q + 1))
   · have e1 : Pro.escO L (s.size : Nat) m = Pro.numO L (s.size : Nat) (m + 1) := by unfold Pro.escO; rw [hset, hback, hs, hb]; simp
     have e2 : Ref.escapeF s cls (st0 q) = (⟨false, [((Ref.numberF s cls (st0 (q + 1))).1, (Ref.numberF s cls (st0 (q + 1))).1)]⟩, true, (Ref.numberF s cls (st0 (q + 1))).2) := by
       unfold Ref.escapeF; rw [hi, hb, if_neg (by simp), if_neg hs', go0]
     have hn := num_same cls h h92 hcl
     rw [e1, e2, hset, hs]
     refine ⟨⟨fun hk => ?_, hn.2⟩, fun hk => ⟨rfl, fun _ => ?_⟩⟩
     · have := hn.1 hk; exact ⟨this.1, this.2.1, rfl, this.2.2.2⟩
     · have := (hn.1 hk).2.2.1; rw [this]
   · have e1 : Pro.escO L (s.size : Nat) m = Pro.bad 6 (Pro.placeAt L (s.size : Nat) m) (m + 1) := by unfold Pro.escO; rw [hset, hback, hs, hb]; simp
     have e2 : (Ref.escapeF s cls (st0 q)).2.2 = ⟨q + 1, 6, q⟩ := by unfold Ref.escapeF; rw [hi, if_pos hb, go0, fail0]
     rw [e1, e2]
     exact ⟨same_fault (by decide) rfl h.place.symm, fun hk => absurd hk (by simp [Pro.bad])⟩
 · have hsb := set_back hs
   have hb : Ref.backB (byteAt s (q + 1)) = false := by rw [← back_same]; exact hsb.1
   have e1 : Pro.escO L (s.size : Nat) m = Pro.good (Pro.letAt L (m + 1)) (m + 2) := by unfold Pro.escO; rw [hset, hs, if_pos rfl]
   have e2 : Ref.escapeF s cls (st0 q) = (⟨decide (byteAt s (q + 1) < 97), Ref.setL (byteAt s (q + 1))⟩, false, st0 (q + 2)) := by
     unfold Ref.escapeF; rw [hi, if_neg (by simp [hb]), if_pos ((set_same _).1 hs), go0]
   rw [e1, e2, hset, hs]
   exact ⟨⟨fun _ => ⟨rfl, rfl, rfl, h1.next (by omega) (by omega)⟩, fun hk => absurd rfl hk⟩, fun _ => ⟨rfl, fun hh => by cases hh⟩⟩
theorem member_same {m q : Nat} (h : Br s L m q) (hlt : q < s.size) :
   Same s L (Pro.memberO L (s.size : Nat) m) (Pro.memberO L (s.size : Nat) m).v (Ref.memberF s (st0 q)).2.2 ∧ ((Pro.memberO L (s.size : Nat) m).k = 0 → (Ref.memberF s (st0 q)).2.1 = !Pro.many L m ∧ ((Ref.memberF s (st0 q)).2.1 = true → (Ref.memberF s (st0 q)).1 = ⟨false, [((Pro.memberO L (s.size : Nat) m).v, (Pro.memberO L (s.size : Nat) m).v)]⟩)) := by
 have hi : (st0 q).i = q := rfl
 by_cases h92 : byteAt s q = 92
 · have h1 := h.go h92 (by omega) (by omega)
   have e92 := (h.eqv 92 (by omega)).2 h92
   have hm : Pro.many L m = Pro.setB (Pro.letAt L (m + 1)) := Pro.many_esc e92
   have eR : Ref.memberF s (st0 q) = Ref.escapeF s true (st0 q) := by unfold Ref.memberF; rw [hi, if_pos h92]
   by_cases hsp : byteAt s (q + 1) = 98 ∨ byteAt s (q + 1) = 45
   · have hb0 : byteAt s (q + 1) < 128 := by omega
     have e := h1.ascii hb0
     have hset : Pro.setB (byteAt s (q + 1)) = false := by rcases hsp with hh | hh <;> rw [hh] <;> decide
     have hs' : ¬ Ref.setL (byteAt s (q + 1)) ≠ [] := fun hh => by rw [(set_same _).2 hh] at hset; cases hset
     have hb : Ref.backB (byteAt s (q + 1)) = false := by rcases hsp with hh | hh <;> rw [hh] <;> decide
     have e2 : Ref.escapeF s true (st0 q) = (⟨false, [((Ref.numberF s true (st0 (q + 1))).1, (Ref.numberF s true (st0 (q + 1))).1)]⟩, true, (Ref.numberF s true (st0 (q + 1))).2) := by
       unfold Ref.escapeF; rw [hi, hb, if_neg (by simp), if_neg hs', go0]
     have hn : ∃ v, Ref.numberF s true (st0 (q + 1)) = (v, st0 (q + 2)) ∧ Pro.memberO L (s.size : Nat) m = Pro.good v (m + 2) := by
       have hi1 : (st0 (q + 1)).i = q + 1 := rfl
       rcases hsp with hh | hh
       · refine ⟨8, ?_, ?_⟩
         · unfold Ref.numberF; rw [hi1, hh, if_neg (by decide), if_neg (by decide), if_neg (by decide), if_neg (by decide), if_neg (by decide), if_neg (by decide), if_pos ⟨rfl, rfl⟩, go0]
         · unfold Pro.memberO; rw [if_pos ⟨e92, by rw [e]; exact hh⟩]
       · refine ⟨45, ?_, ?_⟩
         · unfold Ref.numberF; rw [hi1, hh, if_neg (by decide), if_neg (by decide), if_neg (by decide), if_neg (by decide), if_neg (by decide), if_pos (.inr ⟨rfl, rfl⟩), go0]
         · unfold Pro.memberO; rw [if_neg (fun hx => by rw [e, hh] at hx; exact absurd hx.2 (by decide)), if_pos ⟨e92, by rw [e]; exact hh⟩]
     obtain ⟨v, hn1, hn2⟩ := hn
     rw [eR, e2, hn1, hn2, hm, e, hset]
     exact ⟨⟨fun _ => ⟨rfl, rfl, rfl, h1.next (by omega) (by omega)⟩, fun hk => absurd rfl hk⟩, fun _ => ⟨rfl, fun _ => rfl⟩⟩
   · have e1 : Pro.memberO L (s.size : Nat) m = Pro.escO L (s.size : Nat) m := by
       unfold Pro.memberO
       rw [if_neg (fun hh => hsp (.inl ((h1.eqv 98 (by omega)).1 hh.2))), if_neg (fun hh => hsp (.inr ((h1.eqv 45 (by omega)).1 hh.2))), if_pos e92]
     rw [e1, eR, hm]
     exact esc_same true h h92 (fun _ => ⟨fun hh => hsp (.inr hh), fun hh => hsp (.inl hh)⟩)
 · have n92 : ¬ Pro.letAt L m = 92 := fun hh => h92 ((h.eqv 92 (by omega)).1 hh)
   obtain ⟨k, c, ho, hg, hn⟩ := h.step hlt
   have hl := (h.letter hlt ho).1
   have e1 : Pro.memberO L (s.size : Nat) m = Pro.good c (m + 1) := by
     unfold Pro.memberO
     rw [if_neg (fun hh => n92 hh.1), if_neg (fun hh => n92 hh.1), if_neg n92, hl]
   have e2 : Ref.memberF s (st0 q) = (⟨false, [(c, c)]⟩, true, st0 (q + k)) := by unfold Ref.memberF; rw [hi, if_neg h92, ho]; rfl
   rw [e1, e2, Pro.many_no n92]
   exact ⟨⟨fun _ => ⟨rfl, rfl, rfl, hn⟩, fun hk => absurd rfl hk⟩, fun _ => ⟨rfl, fun _ => rfl⟩⟩
end Eqv
end Go.Proofs.YtnagphodmfejiaaGreatDoor
namespace Go.Proofs.YtnagphodmfejiaaGreatDoor
open Go.RowKit
namespace Eqv
variable {s : ByteArray} {L : List (Int × Int)}
theorem st_eta {st : St} (he : st.e = 0) (ha : st.a = 0) : st = st0 st.i := by cases st; simp only at he ha; subst he; subst ha; rfl
theorem fail_nz {st : St} (h : st.e ≠ 0) (e a : Int) : st.fail e a = st := by unfold St.fail; rw [if_neg h]
theorem classF_err : ∀ (g : Nat) (ps : List Pt) (st : St), st.e ≠ 0 → (Ref.classF s g ps st).2.e = st.e ∧ (Ref.classF s g ps st).2.a = st.a
 | 0, ps, st, h => ⟨rfl, rfl⟩
 | g + 1, ps, st, h => by rw [Ref.classF_end (fun hh => h hh.1)]; exact ⟨rfl, rfl⟩
theorem dash_same {n p : Nat} (h : Br s L n p) : Pro.dashB L n = Ref.rangeB s (st0 p) := by
 have hi : (st0 p).i = p := rfl
 unfold Pro.dashB Ref.rangeB
 rw [hi]
 by_cases h45 : byteAt s p = 45
 · have h1 := h.go h45 (by omega) (by omega)
   have e1 := (h.eqv 45 (by omega)).2 h45
   have e2 := h1.eqv 93 (by omega)
   have e3 := h1.eqv (-1) (by omega)
   have e4 := byteAt_nonneg s (p + 1)
   have e5 := byteAt_lo s (p + 1)
   by_cases k1 : byteAt s (p + 1) = 93 <;> by_cases k2 : p + 1 < s.size
   · simp [e1, h45, e2.2 k1, k1]
   · simp [e1, h45, e2.2 k1, k1]
   · have k3 : ¬ Pro.letAt L (n + 1) = -1 := fun hh => by have := e3.1 hh; omega
     have k4 : ¬ Pro.letAt L (n + 1) = 93 := fun hh => k1 (e2.1 hh)
     simp [e1, h45, k1, k2, k3, k4, st0]
   · have k3 : Pro.letAt L (n + 1) = -1 := e3.2 (by omega)
     simp [e1, h45, k1, k2, k3, st0]
 · have e1 : ¬ Pro.letAt L n = 45 := fun hh => h45 ((h.eqv 45 (by omega)).1 hh)
   simp [e1, h45]
theorem br_mono {n m p q : Nat} (h1 : Br s L n p) (h2 : Br s L m q) (hq : q ≤ p) : m ≤ n := by
 by_cases hnm : m ≤ n
 · exact hnm
 · exfalso
   have key : ∀ k n p, Br s L n p → n + k ≤ L.length → ∃ r, Br s L (n + k) r ∧ p + k ≤ r := by
     intro k
     induction k with
     | zero => intro n p h _; exact ⟨p, h, by omega⟩
     | succ k ih =>
       intro n p h hl
       have hp : p < s.size := h.lt.1 (by omega)
       obtain ⟨j, c, ho, _, hn⟩ := h.step hp
       obtain ⟨r, hr, hle⟩ := ih (n + 1) (p + j) hn (by omega)
       have := Ref.oneF_bd ho
       exact ⟨r, by rw [show n + (k + 1) = n + 1 + k by omega]; exact hr, by omega⟩
   obtain ⟨r, hr, hle⟩ := key (m - n) n p h1 (by have := h2.le; omega)
   rw [show n + (m - n) = m by omega] at hr
   have e1 := hr.place
   have e2 := h2.place
   rw [e1] at e2
   omega
theorem class_same : ∀ (f g : Nat) (ps : List Pt) (n p : Nat), Br s L n p → L.length < n + f → s.size < p + g → Same s L (Pro.classO L (s.size : Nat) f n) 1 (Ref.classF s g ps (st0 p)).2
 | 0, g, ps, n, p, h, hf, hg => by have := h.le; omega
 | f + 1, 0, ps, n, p, h, hf, hg => by have := h.good.le; omega
 | f + 1, g + 1, ps, n, p, h, hf, hg => by
   simp only [Pro.classO]
   by_cases h93 : byteAt s p = 93
   · rw [if_pos ((h.eqv 93 (by omega)).2 h93), Ref.classF_end (fun hh => hh.2 h93), go0]
     exact same_good (h.go h93 (by omega) (by omega))
   · have hc : (st0 p).e = 0 ∧ byteAt s (st0 p).i ≠ 93 := ⟨rfl, h93⟩
     rw [if_neg (fun hh => h93 ((h.eqv 93 (by omega)).1 hh))]
     by_cases hlt : p < s.size
     · have hln := h.lt.2 hlt
       have hb0 := (byteAt_nonneg s p).2 hlt
       have hc1 : ¬ byteAt s (st0 p).i < 0 := by show ¬ byteAt s p < 0; omega
       rw [if_neg (by omega)]
       have hm := member_same h hlt
       have hmi := Pro.memberO_in (L := L) (len := (s.size : Nat)) n hln
       by_cases hk : (Pro.memberO L (s.size : Nat) n).k = 0
       · obtain ⟨m1, m2, _, hb1⟩ := hm.1.1 hk
         obtain ⟨hone, hlo⟩ := hm.2 hk
         have hst := st_eta m1 m2
         have hd := dash_same hb1
         cases hdd : Pro.dashB L (Pro.memberO L (s.size : Nat) n).n
         · rw [hdd] at hd
           have ha : Pro.addO L (s.size : Nat) n = Pro.memberO L (s.size : Nat) n := by unfold Pro.addO; rw [if_neg (by simp [hk]), if_neg (by simp [hdd])]
           rw [ha, if_neg (by simp [hk]), Ref.classF_one hc hc1 (by rw [hst, ← hd]; simp), hst]
           have hgt : p < (Ref.memberF s (st0 p)).2.2.i := by
             have := hb1.good.le
             by_cases hh : p < (Ref.memberF s (st0 p)).2.2.i
             · exact hh
             · exfalso
               have := br_mono h hb1 (by omega)
               omega
           exact class_same f g _ _ _ hb1 (by omega) (by omega)
         · rw [hdd] at hd
           have hdy := Pro.dashB_yes hdd
           have h45 := (hb1.eqv 45 (by omega)).1 hdy.1
           have hb2 := hb1.go h45 (by omega) (by omega)
           have hlt2 : (Ref.memberF s (st0 p)).2.2.i + 1 < s.size := by
             by_cases hh : (Ref.memberF s (st0 p)).2.2.i + 1 < s.size
             · exact hh
             · exact absurd ((hb2.eqv (-1) (by omega)).2 (byteAt_out _ _ (by omega))) hdy.2.2
           have hm2 := member_same hb2 hlt2
           have hgo : (Ref.memberF s (st0 p)).2.2.go 1 = st0 ((Ref.memberF s (st0 p)).2.2.i + 1) := by rw [hst]; rfl
           have hr2 : Ref.rangeB s (Ref.memberF s (st0 p)).2.2 = true := by rw [hst]; exact hd.symm
           have hmi2 := Pro.memberO_in (L := L) (len := (s.size : Nat)) ((Pro.memberO L (s.size : Nat) n).n + 1) (Pro.letAt_ne hdy.2.2)
           by_cases hk2 : (Pro.memberO L (s.size : Nat) ((Pro.memberO L (s.size : Nat) n).n + 1)).k = 0
           · obtain ⟨p1, p2, _, hb3⟩ := hm2.1.1 hk2
             obtain ⟨htwo, hlo2⟩ := hm2.2 hk2
             have hst2 := st_eta p1 p2
             have hbad : Ref.badB (Ref.memberF s (st0 p)).1 (Ref.memberF s ((Ref.memberF s (st0 p)).2.2.go 1)).1 (Ref.memberF s (st0 p)).2.1 (Ref.memberF s ((Ref.memberF s (st0 p)).2.2.go 1)).2.1 = true ↔ (Pro.many L n = true ∨ Pro.many L ((Pro.memberO L (s.size : Nat) n).n + 1) = true ∨ (Pro.memberO L (s.size : Nat) ((Pro.memberO L (s.size : Nat) n).n + 1)).v < (Pro.memberO L (s.size : Nat) n).v) := by
               rw [hgo]
               unfold Ref.badB
               rw [hone, htwo]
               cases q1 : Pro.many L n
               · cases q2 : Pro.many L ((Pro.memberO L (s.size : Nat) n).n + 1)
                 · rw [q1] at hone
                   rw [q2] at htwo
                   rw [hlo hone, hlo2 htwo]
                   simp [Ref.loOf]
                   exact decide_eq_true_iff
                 · simp
               · simp
             by_cases hbb : Pro.many L n = true ∨ Pro.many L ((Pro.memberO L (s.size : Nat) n).n + 1) = true ∨ (Pro.memberO L (s.size : Nat) ((Pro.memberO L (s.size : Nat) n).n + 1)).v < (Pro.memberO L (s.size : Nat) n).v
             · have ha : Pro.addO L (s.size : Nat) n = Pro.bad 4 (Pro.placeAt L (s.size : Nat) (Pro.memberO L (s.size : Nat) n).n) (Pro.memberO L (s.size : Nat) ((Pro.memberO L (s.size : Nat) n).n + 1)).n := by
                 unfold Pro.addO; rw [if_neg (by simp [hk]), if_pos hdd]; unfold Pro.rangeO; rw [if_neg (by simp [hk2]), if_pos hbb]
               rw [ha, if_pos (by simp [Pro.bad]), Ref.classF_bad hc hc1 hr2 (by rw [hgo]; exact p1) (hbad.2 hbb), hgo, hst2, fail0]
               exact same_fault (by decide) rfl hb1.place.symm
             · have ha : Pro.addO L (s.size : Nat) n = Pro.memberO L (s.size : Nat) ((Pro.memberO L (s.size : Nat) n).n + 1) := by
                 unfold Pro.addO; rw [if_neg (by simp [hk]), if_pos hdd]; unfold Pro.rangeO; rw [if_neg (by simp [hk2]), if_neg hbb]
               rw [ha, if_neg (by simp [hk2]), Ref.classF_range hc hc1 hr2 (by rw [hgo]; exact p1) (fun hh => hbb (hbad.1 hh)), hgo, hst2]
               have hgt : p < (Ref.memberF s (st0 ((Ref.memberF s (st0 p)).2.2.i + 1))).2.2.i := by
                 by_cases hh : p < (Ref.memberF s (st0 ((Ref.memberF s (st0 p)).2.2.i + 1))).2.2.i
                 · exact hh
                 · exfalso
                   have := br_mono h hb3 (by omega)
                   omega
               exact class_same f g _ _ _ hb3 (by omega) (by omega)
           · have ha : Pro.addO L (s.size : Nat) n = Pro.memberO L (s.size : Nat) ((Pro.memberO L (s.size : Nat) n).n + 1) := by
               unfold Pro.addO; rw [if_neg (by simp [hk]), if_pos hdd]; unfold Pro.rangeO; rw [if_pos hk2]
             have he := hm2.1.2 hk2
             rw [ha, if_pos hk2, Ref.classF_dead hc hc1 hr2 (by rw [hgo, he.1]; omega), hgo]
             exact ⟨fun hh => absurd hh hk2, fun _ => he⟩
       · have ha : Pro.addO L (s.size : Nat) n = Pro.memberO L (s.size : Nat) n := by unfold Pro.addO; rw [if_pos hk]
         have he := hm.1.2 hk
         have hne : (Ref.memberF s (st0 p)).2.2.e ≠ 0 := by rw [he.1]; omega
         rw [ha, if_pos hk, Ref.classF_one hc hc1 (by unfold Ref.rangeB; simp [hne])]
         have hce := classF_err (s := s) g (ps ++ [(Ref.memberF s (st0 p)).1]) (Ref.memberF s (st0 p)).2.2 hne
         exact ⟨fun hh => absurd hh hk, fun _ => ⟨by rw [hce.1]; exact he.1, by rw [hce.2]; exact he.2⟩⟩
     · have hb0 : byteAt s p = -1 := byteAt_out s p (by omega)
       have hend := h.stop hlt
       rw [if_pos (by omega), Ref.classF_open hc (by show byteAt s p < 0; omega), fail0]
       exact same_fault (by decide) rfl (by have := h.good.le; show (p : Int) = ((s.size : Nat) : Int); omega)
end Eqv
end Go.Proofs.YtnagphodmfejiaaGreatDoor
