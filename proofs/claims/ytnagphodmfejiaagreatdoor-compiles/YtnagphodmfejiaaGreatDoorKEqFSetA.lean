/- The reader's counts, quantifiers and openings beside the lexer's. The reader's quantifiers and openings beside the lexer's. The sizes of tokens in a row. What leaves take: the lexer's tokens beside the reader's trees. Sets of characters as rising spans: plain. -/
import Derived.Test.YtnagphodmfejiaaGreatDoorKEqAEqE
import Derived.Test.YtnagphodmfejiaaGreatDoorKRefTRefV
import Derived.Test.YtnagphodmfejiaaGreatDoorKParATrA
namespace Go.Proofs.YtnagphodmfejiaaGreatDoor
open Go.RowKit
namespace Eqv
variable {s : ByteArray} {L : List (Int × Int)}
theorem dig_same {n p : Nat} (h : Br s L n p) : Pro.dig (Pro.letAt L n) = Ref.digitB (byteAt s p) := by
 unfold Pro.dig Ref.digitB
 rcases h.alike with ⟨e, _⟩ | ⟨a, b⟩
 · rw [e]
 · have a1 : decide (Pro.letAt L n ≤ 57) = false := decide_eq_false (by omega)
   have b1 : decide (byteAt s p ≤ 57) = false := decide_eq_false (by omega)
   rw [a1, b1, Bool.and_false, Bool.and_false]
theorem digb {b : Int} (h : Ref.digitB b = true) : 48 ≤ b ∧ b ≤ 57 := by unfold Ref.digitB at h; simpa using h
theorem countL_same : ∀ (f g : Nat) (c d : Int) (n p : Nat), Br s L n p → L.length < n + f → s.size < p + g → 0 ≤ d → c = min d 101 →
   (Pro.countL L f c n).1 = min (Ref.countL s g d (st0 p)).1 101 ∧ 0 ≤ (Ref.countL s g d (st0 p)).1 ∧ (Ref.countL s g d (st0 p)).2 = st0 (Ref.countL s g d (st0 p)).2.i ∧ Br s L (Pro.countL L f c n).2 (Ref.countL s g d (st0 p)).2.i ∧ p ≤ (Ref.countL s g d (st0 p)).2.i
 | 0, g, c, d, n, p, h, hf, hg, hd, hc => by have := h.le; omega
 | f + 1, 0, c, d, n, p, h, hf, hg, hd, hc => by have := h.good.le; omega
 | f + 1, g + 1, c, d, n, p, h, hf, hg, hd, hc => by
   have hds := dig_same h
   cases hb : Ref.digitB (byteAt s p)
   · rw [hb] at hds
     rw [Ref.countL_stop (st := st0 p) hb, Pro.countL_stop hds]
     exact ⟨hc, hd, rfl, h, Nat.le_refl _⟩
   · rw [hb] at hds
     have hx := digb hb
     have hl : Pro.letAt L n = byteAt s p := h.ascii (by omega)
     rw [Ref.countL_go (st := st0 p) hb, Pro.countL_go hds, hl, go0]
     have hi : (st0 p).i = p := rfl
     rw [hi]
     have := countL_same f g (min (c * 10 + (byteAt s p - 48)) 101) (if d ≤ 100 then 10 * d + byteAt s p - 48 else d) (n + 1) (p + 1) (h.next (by omega) (by omega)) (by omega) (by omega) (by split <;> omega) (by split <;> omega)
     exact ⟨this.1, this.2.1, this.2.2.1, this.2.2.2.1, by have := this.2.2.2.2; omega⟩
theorem count_same {n p : Nat} (h : Br s L n p) : Same s L (Pro.countO L (s.size : Nat) n) (Ref.countF s (st0 p)).1 (Ref.countF s (st0 p)).2 := by
 have hl := h.le
 have hg := h.good.le
 have hi : (st0 p).i = p := rfl
 have hc := countL_same (L.length + 1 - n) (s.size + 1 - p) 0 0 n p h (by omega) (by omega) (by omega) (by omega)
 have hN : Ref.countN s (st0 p) = Ref.countL s (s.size + 1 - p) 0 (st0 p) := rfl
 have hP : Pro.countP L n = Pro.countL L (L.length + 1 - n) 0 n := rfl
 have hds := dig_same h
 have hR := Ref.countF_eq (s := s) (st := st0 p) (n := (Ref.countN s (st0 p)).1) (st' := (Ref.countN s (st0 p)).2) rfl
 rw [hR, hN, hi]
 unfold Pro.countO
 rw [hP]
 cases hb : Ref.digitB (byteAt s p)
 · rw [hb] at hds
   have hz : Ref.countL s (s.size + 1 - p) 0 (st0 p) = (0, st0 p) := by rw [show s.size + 1 - p = (s.size - p) + 1 by omega]; exact Ref.countL_stop (st := st0 p) hb
   rw [if_pos hds, hz]
   rw [if_neg (show ¬ (100 : Int) < ((0 : Int), st0 p).1 from (by decide : ¬ (100 : Int) < 0)), if_pos (show ((0 : Int), st0 p).2.i = p from rfl)]
   show Same s L _ 0 ((st0 p).fail 3 p)
   rw [fail0]
   exact same_fault (by decide) rfl h.place.symm
 · rw [hb] at hds
   rw [if_neg (by simp [hds])]
   have hx := digb hb
   have hgt : p < (Ref.countL s (s.size + 1 - p) 0 (st0 p)).2.i := by
     rw [show s.size + 1 - p = (s.size - p) + 1 by omega, Ref.countL_go (st := st0 p) hb, go0]
     have := countL_same (L.length + 1 - (n + 1)) (s.size - p) (min (if (0 : Int) ≤ 100 then 10 * 0 + byteAt s (st0 p).i - 48 else 0) 101) (if (0 : Int) ≤ 100 then 10 * 0 + byteAt s (st0 p).i - 48 else 0) (n + 1) (p + 1) (h.next (by omega) (by omega)) (by have := h.lt.2 ((byteAt_nonneg s p).1 (by omega)); omega) (by have := (byteAt_nonneg s p).1 (by omega); omega) (by rw [if_pos (by decide), hi]; omega) rfl
     have := this.2.2.2.2
     omega
   generalize Ref.countL s (s.size + 1 - p) 0 (st0 p) = r at *
   generalize Pro.countL L (L.length + 1 - n) 0 n = t at *
   obtain ⟨e1, e2, e3, e4, e5⟩ := hc
   rw [e1]
   by_cases hbig : 100 < r.1
   · rw [if_pos (by omega), if_pos hbig, if_neg (by omega), e3, fail0]
     exact same_fault (by decide) rfl h.place.symm
   · rw [if_neg (by omega), if_neg hbig, if_neg (by omega), e3]
     exact ⟨fun _ => ⟨rfl, rfl, by show r.1 = min r.1 101; omega, e4⟩, fun hh => absurd rfl hh⟩
def SameQ (s : ByteArray) (L : List (Int × Int)) (o : Pro.Out) (n : Nat) (mx : Int) (r : Int × Int × St) : Prop := (o.k = 0 → r.1 = o.v ∧ r.2.1 = mx ∧ r.2.2 = st0 r.2.2.i ∧ Br s L n r.2.2.i) ∧ (o.k ≠ 0 → r.2.2.e = (o.k : Int) ∧ r.2.2.a = o.p)
theorem counts_same {n p : Nat} (h : Br s L n p) (hb : byteAt s p = 123) : SameQ s L (Pro.countsO L (s.size : Nat) n).1 (Pro.countsO L (s.size : Nat) n).1.n (Pro.countsO L (s.size : Nat) n).2 (Ref.countsF s (st0 p)) := by
 have h1 := h.go hb (by omega) (by omega)
 have ha := count_same h1
 have hva := Pro.countO_in (L := L) (len := (s.size : Nat)) (n + 1) h1.le
 have hi : (st0 p).i = p := rfl
 unfold Pro.countsO Ref.countsF
 simp only []
 rw [go0, hi]
 by_cases hk : (Pro.countO L (s.size : Nat) (n + 1)).k = 0
 · obtain ⟨a1, a2, a3, a4⟩ := ha.1 hk
   have hst := st_eta a1 a2
   rw [if_neg (by simp [hk]), a3, hst]
   generalize (Ref.countF s (st0 (p + 1))).2.i = p1 at *
   generalize Pro.countO L (s.size : Nat) (n + 1) = A at *
   by_cases h125 : byteAt s p1 = 125
   · have e1 : Ref.restF s A.v (st0 p1) = (A.v, st0 p1) := by unfold Ref.restF; rw [if_neg (fun hh => by have : byteAt s p1 = 44 := hh.2; omega)]
     have e2 : Ref.braceF s (st0 p1) = st0 p1 := by unfold Ref.braceF; rw [if_neg (fun hh => hh.2 h125)]
     rw [if_pos ((a4.eqv 125 (by omega)).2 h125), e1, e2, go0, if_neg (by omega)]
     exact ⟨fun _ => ⟨rfl, rfl, rfl, a4.go h125 (by omega) (by omega)⟩, fun hh => absurd rfl hh⟩
   · rw [if_neg (fun hh => h125 ((a4.eqv 125 (by omega)).1 hh))]
     by_cases h44 : byteAt s p1 = 44
     · rw [if_neg (by simp; exact (a4.eqv 44 (by omega)).2 h44)]
       have b1 := a4.go h44 (by omega) (by omega)
       by_cases h3 : byteAt s (p1 + 1) = 125
       · have e1 : Ref.restF s A.v (st0 p1) = (-1, st0 (p1 + 1)) := by unfold Ref.restF; rw [if_pos ⟨rfl, h44⟩, if_pos (show byteAt s ((st0 p1).i + 1) = 125 from h3), go0]
         have e2 : Ref.braceF s (st0 (p1 + 1)) = st0 (p1 + 1) := by unfold Ref.braceF; rw [if_neg (fun hh => hh.2 h3)]
         rw [if_pos ((b1.eqv 125 (by omega)).2 h3), e1, e2, go0, if_neg (by omega)]
         exact ⟨fun _ => ⟨rfl, rfl, rfl, b1.go h3 (by omega) (by omega)⟩, fun hh => absurd rfl hh⟩
       · rw [if_neg (fun hh => h3 ((b1.eqv 125 (by omega)).1 hh))]
         have e1 : Ref.restF s A.v (st0 p1) = Ref.countF s (st0 (p1 + 1)) := by unfold Ref.restF; rw [if_pos ⟨rfl, h44⟩, if_neg (show ¬ byteAt s ((st0 p1).i + 1) = 125 from h3), go0]
         rw [e1]
         have hm := count_same b1
         have hvm := Pro.countO_in (L := L) (len := (s.size : Nat)) (A.n + 1) b1.le
         by_cases hk2 : (Pro.countO L (s.size : Nat) (A.n + 1)).k = 0
         · obtain ⟨c1, c2, c3, c4⟩ := hm.1 hk2
           have hst2 := st_eta c1 c2
           rw [if_neg (by simp [hk2]), c3, hst2]
           generalize (Ref.countF s (st0 (p1 + 1))).2.i = p2 at *
           generalize Pro.countO L (s.size : Nat) (A.n + 1) = M at *
           by_cases h4 : byteAt s p2 = 125
           · have e2 : Ref.braceF s (st0 p2) = st0 p2 := by unfold Ref.braceF; rw [if_neg (fun hh => hh.2 h4)]
             rw [if_neg (by simp; exact (c4.eqv 125 (by omega)).2 h4), e2, go0]
             by_cases h5 : M.v < A.v
             · rw [if_pos h5, if_pos ⟨rfl, hvm.2.2.1, h5⟩, fail0]
               exact ⟨fun hh => absurd hh (by simp [Pro.bad]), fun _ => ⟨rfl, h.place.symm⟩⟩
             · rw [if_neg h5, if_neg (fun hh => h5 hh.2.2)]
               exact ⟨fun _ => ⟨rfl, rfl, rfl, c4.go h4 (by omega) (by omega)⟩, fun hh => absurd rfl hh⟩
           · have e2 : Ref.braceF s (st0 p2) = ⟨p2, 3, p2⟩ := by unfold Ref.braceF; rw [if_pos ⟨rfl, h4⟩, fail0]; rfl
             rw [if_pos (fun hh => h4 ((c4.eqv 125 (by omega)).1 hh)), e2]
             rw [if_neg (fun hh => absurd hh.1 (show ¬ (3 : Int) = 0 by decide))]
             exact ⟨fun hh => absurd hh (by simp [Pro.bad]), fun _ => ⟨rfl, c4.place.symm⟩⟩
         · have he := hm.2 hk2
           have hne : (Ref.countF s (st0 (p1 + 1))).2.e ≠ 0 := by rw [he.1]; omega
           have e2 : Ref.braceF s (Ref.countF s (st0 (p1 + 1))).2 = (Ref.countF s (st0 (p1 + 1))).2 := by unfold Ref.braceF; rw [if_neg (fun hh => hne hh.1)]
           rw [if_pos hk2, e2, if_neg (fun hh => hne hh.1)]
           exact ⟨fun hh => absurd hh hk2, fun _ => he⟩
     · have e1 : Ref.restF s A.v (st0 p1) = (A.v, st0 p1) := by unfold Ref.restF; rw [if_neg (fun hh => h44 hh.2)]
       have e2 : Ref.braceF s (st0 p1) = ⟨p1, 3, p1⟩ := by unfold Ref.braceF; rw [if_pos ⟨rfl, h125⟩, fail0]; rfl
       rw [if_pos (fun hh => h44 ((a4.eqv 44 (by omega)).1 hh)), e1, e2]
       rw [if_neg (fun hh => absurd hh.1 (show ¬ (3 : Int) = 0 by decide))]
       exact ⟨fun hh => absurd hh (by simp [Pro.bad]), fun _ => ⟨rfl, a4.place.symm⟩⟩
 · have he := ha.2 hk
   have hne : (Ref.countF s (st0 (p + 1))).2.e ≠ 0 := by rw [he.1]; omega
   have e1 : Ref.restF s (Ref.countF s (st0 (p + 1))).1 (Ref.countF s (st0 (p + 1))).2 = ((Ref.countF s (st0 (p + 1))).1, (Ref.countF s (st0 (p + 1))).2) := by unfold Ref.restF; rw [if_neg (fun hh => hne hh.1)]
   have e2 : Ref.braceF s (Ref.countF s (st0 (p + 1))).2 = (Ref.countF s (st0 (p + 1))).2 := by unfold Ref.braceF; rw [if_neg (fun hh => hne hh.1)]
   rw [if_pos hk, e1, e2, if_neg (fun hh => hne hh.1)]
   exact ⟨fun hh => absurd hh hk, fun _ => he⟩
end Eqv
end Go.Proofs.YtnagphodmfejiaaGreatDoor
namespace Go.Proofs.YtnagphodmfejiaaGreatDoor
open Go.RowKit
namespace Eqv
variable {s : ByteArray} {L : List (Int × Int)}
theorem lazy_same {n p : Nat} (h : Br s L n p) : Ref.lazyF s (st0 p) = st0 (Ref.lazyF s (st0 p)).i ∧ Br s L (Pro.lazyN L n) (Ref.lazyF s (st0 p)).i := by
 unfold Ref.lazyF Pro.lazyN
 by_cases hb : byteAt s p = 63
 · rw [if_pos ⟨rfl, hb⟩, if_pos ((h.eqv 63 (by omega)).2 hb)]
   exact ⟨rfl, h.go hb (by omega) (by omega)⟩
 · rw [if_neg (fun hh => hb hh.2), if_neg (fun hh => hb ((h.eqv 63 (by omega)).1 hh))]
   exact ⟨rfl, h⟩
theorem quant_same {n p : Nat} (h : Br s L n p) (hq : Ref.quantB (byteAt s p) = true) : (Pro.quantO L (s.size : Nat) n).1 = true ∧ SameQ s L (Pro.quantO L (s.size : Nat) n).2.1 (Pro.lazyN L (Pro.quantO L (s.size : Nat) n).2.1.n) (Pro.quantO L (s.size : Nat) n).2.2 (Ref.quantF s (st0 p)) := by
 have hi : (st0 p).i = p := rfl
 have hc := Ref.quantB_cases hq
 have e42 := h.eqv 42 (by omega)
 have e43 := h.eqv 43 (by omega)
 have e63 := h.eqv 63 (by omega)
 have e123 := h.eqv 123 (by omega)
 unfold Pro.quantO Ref.quantF
 rw [hi]
 by_cases k1 : byteAt s p = 42
 · have hz := lazy_same (h.go k1 (by omega) (by omega))
   rw [if_pos (e42.2 k1), if_neg (by omega), if_neg (by omega), if_pos k1, go0]
   exact ⟨rfl, fun _ => ⟨rfl, rfl, hz.1, hz.2⟩, fun hh => absurd rfl hh⟩
 · by_cases k2 : byteAt s p = 43
   · have hz := lazy_same (h.go k2 (by omega) (by omega))
     rw [if_neg (fun hh => k1 (e42.1 hh)), if_pos (e43.2 k2), if_pos k2, go0]
     exact ⟨rfl, fun _ => ⟨rfl, rfl, hz.1, hz.2⟩, fun hh => absurd rfl hh⟩
   · by_cases k3 : byteAt s p = 63
     · have hz := lazy_same (h.go k3 (by omega) (by omega))
       rw [if_neg (fun hh => k1 (e42.1 hh)), if_neg (fun hh => k2 (e43.1 hh)), if_pos (e63.2 k3), if_neg k2, if_pos k3, go0]
       exact ⟨rfl, fun _ => ⟨rfl, rfl, hz.1, hz.2⟩, fun hh => absurd rfl hh⟩
     · have k4 : byteAt s p = 123 := by omega
       have hcs := counts_same h k4
       rw [if_neg (fun hh => k1 (e42.1 hh)), if_neg (fun hh => k2 (e43.1 hh)), if_neg (fun hh => k3 (e63.1 hh)), if_pos (e123.2 k4), if_neg k2, if_neg k3, if_neg k1]
       refine ⟨rfl, fun hk => ?_, fun hk => ?_⟩
       · obtain ⟨a1, a2, a3, a4⟩ := hcs.1 hk
         rw [a3]
         have hz := lazy_same a4
         exact ⟨a1, a2, hz.1, hz.2⟩
       · have he := hcs.2 hk
         have : Ref.lazyF s (Ref.countsF s (st0 p)).2.2 = (Ref.countsF s (st0 p)).2.2 := by unfold Ref.lazyF; rw [if_neg (fun hh => by have e1 := hh.1; have e2 := he.1; have : (Pro.countsO L (s.size : Nat) n).1.k ≠ 0 := hk; omega)]
         rw [this]
         exact he
theorem quant_none {n p : Nat} (h : Br s L n p) (hq : Ref.quantB (byteAt s p) = false) : Pro.quantO L (s.size : Nat) n = (false, Pro.good 0 n, 0) := by
 have e42 := h.eqv 42 (by omega)
 have e43 := h.eqv 43 (by omega)
 have e63 := h.eqv 63 (by omega)
 have e123 := h.eqv 123 (by omega)
 have hn : byteAt s p ≠ 42 ∧ byteAt s p ≠ 43 ∧ byteAt s p ≠ 63 ∧ byteAt s p ≠ 123 := by unfold Ref.quantB at hq; simpa [and_assoc] using hq
 unfold Pro.quantO
 rw [if_neg (fun hh => hn.1 (e42.1 hh)), if_neg (fun hh => hn.2.1 (e43.1 hh)), if_neg (fun hh => hn.2.2.1 (e63.1 hh)), if_neg (fun hh => hn.2.2.2 (e123.1 hh))]
theorem open_same {n p : Nat} (h : Br s L n p) (hb : byteAt s p = 40) : Same s L (Pro.openO L (s.size : Nat) n) 0 (Ref.openF s (st0 p)) := by
 have h1 := h.go hb (by omega) (by omega)
 have hi : (st0 p).i = p := rfl
 unfold Pro.openO Ref.openF
 rw [hi]
 by_cases k1 : byteAt s (p + 1) = 63
 · have h2 := h1.go k1 (by omega) (by omega)
   rw [if_pos ((h1.eqv 63 (by omega)).2 k1), if_pos k1]
   by_cases k2 : byteAt s (p + 2) = 58
   · rw [if_pos ((h2.eqv 58 (by omega)).2 k2), if_pos k2, go0]
     exact same_good (h2.go k2 (by omega) (by omega))
   · rw [if_neg (fun hh => k2 ((h2.eqv 58 (by omega)).1 hh)), if_neg k2]
     have a1 := h2.eqv 61 (by omega)
     have a2 := h2.eqv 33 (by omega)
     have a3 := h2.eqv 60 (by omega)
     by_cases k3 : byteAt s (p + 2) = 61 ∨ byteAt s (p + 2) = 33 ∨ byteAt s (p + 2) = 60
     · have k3' : Pro.letAt L (n + 2) = 61 ∨ Pro.letAt L (n + 2) = 33 ∨ Pro.letAt L (n + 2) = 60 := by
         rcases k3 with k | k | k
         · exact .inl (a1.2 k)
         · exact .inr (.inl (a2.2 k))
         · exact .inr (.inr (a3.2 k))
       rw [if_pos k3', if_pos k3, go0, fail0]
       exact same_fault (by decide) rfl h.place.symm
     · have k3' : ¬ (Pro.letAt L (n + 2) = 61 ∨ Pro.letAt L (n + 2) = 33 ∨ Pro.letAt L (n + 2) = 60) := fun hh => by
         rcases hh with k | k | k
         · exact k3 (.inl (a1.1 k))
         · exact k3 (.inr (.inl (a2.1 k)))
         · exact k3 (.inr (.inr (a3.1 k)))
       rw [if_neg k3', if_neg k3, go0, fail0]
       exact same_fault (by decide) rfl h2.place.symm
 · rw [if_neg (fun hh => k1 ((h1.eqv 63 (by omega)).1 hh)), if_neg k1, go0]
   exact same_good h1
end Eqv
end Go.Proofs.YtnagphodmfejiaaGreatDoor
namespace Go.Proofs.YtnagphodmfejiaaGreatDoor
open Go.RowKit
namespace Ref
def scan : List Tok → Int → Nat → Option Nat
 | [], _, _ => none
 | t :: r, op, k => if turnO t.kind op = 0 then some k else scan r (turnO t.kind op) (k + 1)
theorem scan_cons (t : Tok) (r : List Tok) (op : Int) (k : Nat) : scan (t :: r) op k = if turnO t.kind op = 0 then some k else scan r (turnO t.kind op) (k + 1) := rfl
def qsize (k mn mx : Int) : Int := if mx < 0 then (if mn = 0 then 1 else mn) * k + 1 else mn * k + (mx - mn) * (k + 1)
def headKind (l : List Tok) : Int := kindAt l 0
def behindAtom (rest : List Tok) (k : Int) : Int × List Tok := match rest with
 | [] => (k, [])
 | q :: r => if q.kind = 6 then (qsize k q.mn q.mx, r) else (k, q :: r)
def sizeS : Nat → List Tok → Int → Option Int
 | 0, _, _ => none
 | _ + 1, [], n => some n
 | f + 1, t :: r, n =>
   if t.kind = 5 then sizeS f r (n + 1)
   else if t.kind = 3 then
     (match scan r 1 0 with
      | none => none
      | some j => match sizeS f (r.take j) 0 with
        | none => none
        | some k => sizeS f (behindAtom (r.drop (j + 1)) k).2 (min 1000000 (n + (behindAtom (r.drop (j + 1)) k).1)))
   else sizeS f (behindAtom r 1).2 (min 1000000 (n + (behindAtom r 1).1))
def SizeIs (l : List Tok) (n z : Int) : Prop := ∃ f, sizeS f l n = some z
theorem sizeS_up : ∀ (f : Nat) (l : List Tok) (n z : Int), sizeS f l n = some z → sizeS (f + 1) l n = some z
 | 0, l, n, z, h => by simp [sizeS] at h
 | f + 1, [], n, z, h => by simpa [sizeS] using h
 | f + 1, t :: r, n, z, h => by
   unfold sizeS at h
   rw [show f + 1 + 1 = (f + 1) + 1 from rfl]
   unfold sizeS
   split at h
   · rename_i h5; rw [if_pos h5]; exact sizeS_up f _ _ _ h
   · rename_i h5
     rw [if_neg h5]
     split at h
     · rename_i h3
       rw [if_pos h3]
       split at h
       · cases h
       · rename_i j hj
         split at h
         · cases h
         · rename_i k hk
           rw [sizeS_up f _ _ _ hk]
           exact sizeS_up f _ _ _ h
     · rename_i h3; rw [if_neg h3]; exact sizeS_up f _ _ _ h
theorem sizeS_le {f g : Nat} {l : List Tok} {n z : Int} (h : sizeS f l n = some z) (hg : f ≤ g) : sizeS g l n = some z := by
 induction g with
 | zero => have : f = 0 := by omega
           subst this; exact h
 | succ g ih =>
   by_cases hfg : f = g + 1
   · subst hfg; exact h
   · exact sizeS_up g l n z (ih (by omega))
def TokB (t : Tok) : Prop := 0 ≤ t.mn ∧ t.mn ≤ 100 ∧ -1 ≤ t.mx ∧ t.mx ≤ 100 ∧ (t.mx = -1 ∨ t.mn ≤ t.mx)
def Bal (ts : List Tok) : Prop := (∀ (op : Int) (rest : List Tok) (k : Nat), 1 ≤ op → scan (ts ++ rest) op k = scan rest op (k + ts.length)) ∧ ∀ t ∈ ts, TokB t
theorem Bal.nil : Bal [] := ⟨fun op rest k _ => by simp, fun t h => by cases h⟩
theorem Bal.append {a b : List Tok} (ha : Bal a) (hb : Bal b) : Bal (a ++ b) := by
 refine ⟨fun op rest k h => ?_, fun t h => ?_⟩
 · rw [List.append_assoc, ha.1 op _ k h, hb.1 op _ _ h, List.length_append, Nat.add_assoc]
 · rcases List.mem_append.1 h with h | h
   · exact ha.2 t h
   · exact hb.2 t h
theorem Bal.one {t : Tok} (h3 : t.kind ≠ 3) (h4 : t.kind ≠ 4) (hb : TokB t) : Bal [t] := by
 refine ⟨fun op rest k h => ?_, fun u h => by simp at h; subst h; exact hb⟩
 have : turnO t.kind op = op := by unfold turnO; rw [if_neg h3, if_neg h4]
 show scan (t :: rest) op k = _
 rw [scan_cons, this, if_neg (by omega)]
 rfl
theorem Bal.group {o c : Tok} {ts : List Tok} (ho : o.kind = 3) (hc : c.kind = 4) (hbo : TokB o) (hbc : TokB c) (h : Bal ts) : Bal (o :: ts ++ [c]) := by
 refine ⟨fun op rest k hop => ?_, fun t ht => by
   simp at ht
   rcases ht with rfl | ht | rfl
   · exact hbo
   · exact h.2 t ht
   · exact hbc⟩
 have e1 : turnO o.kind op = op + 1 := by unfold turnO; rw [if_pos ho]
 have e2 : turnO c.kind (op + 1) = op := by unfold turnO; rw [if_neg (by omega), if_pos hc]; omega
 show scan (o :: (ts ++ [c] ++ rest)) op k = _
 rw [scan_cons, e1, if_neg (by omega), List.append_assoc, h.1 (op + 1) _ _ (by omega)]
 show scan (c :: rest) (op + 1) _ = _
 rw [scan_cons, e2, if_neg (by omega)]
 simp only [List.length_cons, List.length_append, List.length_nil]
 rw [show k + 1 + ts.length + 1 = k + (ts.length + 1 + (0 + 1)) by omega]
def AddsTo (ts : List Tok) (v : Int) : Prop := ∀ n : Int, 0 ≤ n → ∃ n', 0 ≤ n' ∧ min n' 301 = min (n + v) 301 ∧ ∀ rest z, headKind rest ≠ 6 → SizeIs rest n' z → SizeIs (ts ++ rest) n z
theorem AddsTo.nil : AddsTo [] 0 := fun n h => ⟨n, h, by rw [Int.add_zero], fun _ _ _ hz => hz⟩
theorem AddsTo.append {a b : List Tok} {x y : Int} (ha : AddsTo a x) (hb : AddsTo b y) (hx : 0 ≤ x) (hy : 0 ≤ y) (hh : headKind b ≠ 6) : AddsTo (a ++ b) (min (x + y) 301) := fun n h => by
 obtain ⟨n1, p1, q1, r1⟩ := ha n h
 obtain ⟨n2, p2, q2, r2⟩ := hb n1 p1
 refine ⟨n2, p2, by omega, fun rest z hr hz => ?_⟩
 rw [List.append_assoc]
 refine r1 (b ++ rest) z ?_ (r2 rest z hr hz)
 cases b with
 | nil => exact hr
 | cons t r => exact hh
theorem AddsTo.weak {a : List Tok} {x y : Int} (ha : AddsTo a x) (h : min x 301 = min y 301) (hx : 0 ≤ x) (_hy : 0 ≤ y) : AddsTo a y := fun n hn => by
 obtain ⟨n1, p1, q1, r1⟩ := ha n hn
 exact ⟨n1, p1, by omega, r1⟩
theorem AddsTo.bar {t : Tok} (h : t.kind = 5) : AddsTo [t] 1 := fun n hn => ⟨n + 1, by omega, rfl, fun rest z _ ⟨f, hf⟩ => ⟨f + 1, by show sizeS (f + 1) (t :: rest) n = _; unfold sizeS; rw [if_pos h]; exact hf⟩⟩
theorem AddsTo.one {t : Tok} (h5 : t.kind ≠ 5) (h3 : t.kind ≠ 3) : AddsTo [t] 1 := fun n hn => ⟨min 1000000 (n + 1), by omega, by omega, fun rest z hr ⟨f, hf⟩ => ⟨f + 1, by
 show sizeS (f + 1) (t :: rest) n = _
 unfold sizeS
 rw [if_neg h5, if_neg h3]
 have : behindAtom rest 1 = (1, rest) := by
   unfold behindAtom
   cases rest with
   | nil => rfl
   | cons q r => simp only []; rw [if_neg (show ¬ q.kind = 6 from hr)]
 rw [this]
 exact hf⟩⟩
theorem AddsTo.oneQ {t q : Tok} (h5 : t.kind ≠ 5) (h3 : t.kind ≠ 3) (h6 : q.kind = 6) (hq : 0 ≤ qsize 1 q.mn q.mx) : AddsTo [t, q] (qsize 1 q.mn q.mx) := fun n hn => ⟨min 1000000 (n + qsize 1 q.mn q.mx), by omega, by omega, fun rest z hr ⟨f, hf⟩ => ⟨f + 1, by
 show sizeS (f + 1) (t :: q :: rest) n = _
 unfold sizeS
 rw [if_neg h5, if_neg h3]
 have : behindAtom (q :: rest) 1 = (qsize 1 q.mn q.mx, rest) := by unfold behindAtom; simp only []; rw [if_pos h6]
 rw [this]
 exact hf⟩⟩
theorem AddsTo.whole {ts : List Tok} {v : Int} (h : AddsTo ts v) : ∃ z, 0 ≤ z ∧ min z 301 = min v 301 ∧ SizeIs ts 0 z := by
 obtain ⟨n', p, q, r⟩ := h 0 (by omega)
 refine ⟨n', p, by omega, ?_⟩
 have := r [] n' (by decide) ⟨1, rfl⟩
 rw [List.append_nil] at this
 exact this
theorem scan_close {ts rest : List Tok} {c : Tok} (hB : Bal ts) (hc : c.kind = 4) : scan (ts ++ c :: rest) 1 0 = some ts.length := by
 rw [hB.1 1 _ 0 (by omega), scan_cons]
 have : turnO c.kind 1 = 0 := by unfold turnO; rw [if_neg (by omega), if_pos hc]; rfl
 rw [this, if_pos rfl, Nat.zero_add]
theorem AddsTo.group {o c : Tok} {ts : List Tok} {v : Int} (ho : o.kind = 3) (hc : c.kind = 4) (hB : Bal ts) (h : AddsTo ts v) (hv : 0 ≤ v) : AddsTo (o :: ts ++ [c]) v := fun n hn => by
 obtain ⟨k, hk0, hk1, fk, hk2⟩ := h.whole
 refine ⟨min 1000000 (n + k), by omega, by omega, fun rest z hr ⟨f, hf⟩ => ⟨max fk f + 1, ?_⟩⟩
 show sizeS (max fk f + 1) (o :: (ts ++ [c] ++ rest)) n = _
 rw [List.append_assoc]
 show sizeS (max fk f + 1) (o :: (ts ++ c :: rest)) n = _
 unfold sizeS
 rw [if_neg (by omega), if_pos ho, scan_close hB hc]
 simp only []
 rw [List.take_left, sizeS_le hk2 (by omega)]
 have hd : (ts ++ c :: rest).drop (ts.length + 1) = rest := by rw [← List.drop_drop, List.drop_left]; rfl
 rw [hd]
 have : behindAtom rest k = (k, rest) := by
   unfold behindAtom
   cases rest with
   | nil => rfl
   | cons q r => simp only []; rw [if_neg (show ¬ q.kind = 6 from hr)]
 simp only [this]
 exact sizeS_le hf (by omega)
theorem AddsTo.groupQ {o c q : Tok} {ts : List Tok} {v w : Int} (ho : o.kind = 3) (hc : c.kind = 4) (h6 : q.kind = 6) (hB : Bal ts) (h : AddsTo ts v) (hw : 0 ≤ w) (hq : ∀ k, 0 ≤ k → min k 301 = min v 301 → 0 ≤ qsize k q.mn q.mx ∧ min (qsize k q.mn q.mx) 301 = min w 301) : AddsTo (o :: ts ++ [c, q]) w := fun n hn => by
 obtain ⟨k, hk0, hk1, fk, hk2⟩ := h.whole
 obtain ⟨hq0, hq1⟩ := hq k hk0 hk1
 refine ⟨min 1000000 (n + qsize k q.mn q.mx), by omega, by omega, fun rest z hr ⟨f, hf⟩ => ⟨max fk f + 1, ?_⟩⟩
 show sizeS (max fk f + 1) (o :: (ts ++ [c, q] ++ rest)) n = _
 rw [List.append_assoc]
 show sizeS (max fk f + 1) (o :: (ts ++ c :: (q :: rest))) n = _
 unfold sizeS
 rw [if_neg (by omega), if_pos ho, scan_close hB hc]
 simp only []
 rw [List.take_left, sizeS_le hk2 (by omega)]
 have hd : (ts ++ c :: (q :: rest)).drop (ts.length + 1) = q :: rest := by rw [← List.drop_drop, List.drop_left]; rfl
 rw [hd]
 have : behindAtom (q :: rest) k = (qsize k q.mn q.mx, rest) := by unfold behindAtom; simp only []; rw [if_pos h6]
 simp only [this]
 exact sizeS_le hf (by omega)
end Ref
end Go.Proofs.YtnagphodmfejiaaGreatDoor
namespace Go.Proofs.YtnagphodmfejiaaGreatDoor
open Go.RowKit
open Sm (Tree)
namespace Eqv
variable {s : ByteArray} {L : List (Int × Int)}
def inSp (sp : List (Int × Int)) (c : Int) : Bool := sp.any fun x => decide (x.1 ≤ c) && decide (c ≤ x.2)
def inPt (p : Pt) (c : Int) : Bool := inSp p.spans c != p.neg
def anyPt (ps : List Pt) (c : Int) : Bool := ps.any fun p => inPt p c
def tkTok (t : Tok) (c : Int) : Bool := anyPt t.parts c != t.neg
def inShort (a c : Int) : Bool := inPt ⟨decide (a < 97), Ref.setL a⟩ c
def anyRS (R : List (Int × Int)) (S : List Int) (c : Int) : Bool := inSp R c || S.any fun a => inShort a c
def tkTree (T : Tree) (c : Int) : Bool :=
 if T.kind = 1 then !inSp [(10, 10), (13, 13), (8232, 8233)] c
 else if T.kind = 2 then decide (c = T.a)
 else if T.kind = 3 then inShort T.a c
 else if T.kind = 4 then anyRS T.rs T.ss c != T.neg
 else false
def leafK (T : Tree) : Prop := 1 ≤ T.kind ∧ T.kind ≤ 4
def LeafTok (t : Tok) (T : Tree) : Prop := leafK T ∧ (∀ c, tkTok t c = tkTree T c) ∧ t.parts.length ≤ 1000 ∧ ∀ p ∈ t.parts, p.spans.length ≤ 10
theorem inSp_one (a c : Int) : inSp [(a, a)] c = decide (c = a) := by
 unfold inSp
 simp only [List.any_cons, List.any_nil, Bool.or_false]
 by_cases h : c = a
 · subst h; simp
 · simp only [h, decide_false]
   by_cases h2 : a ≤ c
   · simp [h2]; omega
   · simp [h2]
theorem inSp_append (a b : List (Int × Int)) (c : Int) : inSp (a ++ b) c = (inSp a c || inSp b c) := by unfold inSp; rw [List.any_append]
theorem anyPt_snoc (ps : List Pt) (p : Pt) (c : Int) : anyPt (ps ++ [p]) c = (anyPt ps c || inPt p c) := by unfold anyPt; simp [List.any_append]
theorem anyRS_r (R : List (Int × Int)) (S : List Int) (x : Int × Int) (c : Int) : anyRS (R ++ [x]) S c = (anyRS R S c || inSp [x] c) := by
 unfold anyRS; rw [inSp_append]; cases inSp R c <;> cases inSp [x] c <;> simp
theorem anyRS_s (R : List (Int × Int)) (S : List Int) (a : Int) (c : Int) : anyRS R (S ++ [a]) c = (anyRS R S c || inShort a c) := by
 unfold anyRS; rw [List.any_append]; simp [Bool.or_assoc]
theorem inPt_pos (sp : List (Int × Int)) (c : Int) : inPt ⟨false, sp⟩ c = inSp sp c := by unfold inPt; simp
theorem esc_many (cls : Bool) {m q : Nat} (h : Br s L m q) (h92 : byteAt s q = 92) (hs : Pro.setB (Pro.letAt L (m + 1)) = true) :
   (Ref.escapeF s cls (st0 q)).1 = ⟨decide ((Pro.escO L (s.size : Nat) m).v < 97), Ref.setL (Pro.escO L (s.size : Nat) m).v⟩ := by
 have h1 := h.go h92 (by omega) (by omega)
 have hi : (st0 q).i = q := rfl
 have hlet : Pro.letAt L (m + 1) = byteAt s (q + 1) := by
   rcases h1.alike with ⟨e, _⟩ | ⟨a, b⟩
   · exact e
   · rw [set_high (.inl a)] at hs; cases hs
 have hs' := hs
 rw [hlet] at hs'
 have hsb := set_back hs'
 have hb : Ref.backB (byteAt s (q + 1)) = false := by rw [← back_same]; exact hsb.1
 have e1 : Pro.escO L (s.size : Nat) m = Pro.good (Pro.letAt L (m + 1)) (m + 2) := by unfold Pro.escO; rw [if_pos hs]
 rw [e1]
 unfold Ref.escapeF
 rw [hi, if_neg (by simp [hb]), if_pos ((set_same _).1 hs')]
 show (⟨decide (byteAt s (q + 1) < 97), Ref.setL (byteAt s (q + 1))⟩ : Pt) = ⟨decide (Pro.letAt L (m + 1) < 97), Ref.setL (Pro.letAt L (m + 1))⟩
 rw [hlet]
theorem member_many {m q : Nat} (h : Br s L m q) (hm : Pro.many L m = true) :
   (Ref.memberF s (st0 q)).1 = ⟨decide ((Pro.memberO L (s.size : Nat) m).v < 97), Ref.setL (Pro.memberO L (s.size : Nat) m).v⟩ := by
 have hi : (st0 q).i = q := rfl
 have hmm : Pro.letAt L m = 92 ∧ Pro.setB (Pro.letAt L (m + 1)) = true := by unfold Pro.many at hm; simpa using hm
 have h92 := (h.eqv 92 (by omega)).1 hmm.1
 have hb := set_back hmm.2
 have e1 : Pro.memberO L (s.size : Nat) m = Pro.escO L (s.size : Nat) m := by
   unfold Pro.memberO
   rw [if_neg (fun hh => hb.2.2.2.1 hh.2), if_neg (fun hh => hb.2.2.2.2 hh.2), if_pos hmm.1]
 have eR : Ref.memberF s (st0 q) = Ref.escapeF s true (st0 q) := by unfold Ref.memberF; rw [hi, if_pos h92]
 rw [eR, e1]
 exact esc_many true h h92 hmm.2
theorem member_takes {m q : Nat} (h : Br s L m q) (hlt : q < s.size) (hk : (Pro.memberO L (s.size : Nat) m).k = 0) (c : Int) :
   inPt (Ref.memberF s (st0 q)).1 c = if Pro.many L m = true then inShort (Pro.memberO L (s.size : Nat) m).v c else inSp [((Pro.memberO L (s.size : Nat) m).v, (Pro.memberO L (s.size : Nat) m).v)] c := by
 by_cases hm : Pro.many L m = true
 · rw [if_pos hm, member_many h hm]; rfl
 · rw [if_neg hm]
   have hs := (member_same h hlt).2 hk
   have h1 : (Ref.memberF s (st0 q)).2.1 = true := by rw [hs.1]; simp [hm]
   rw [hs.2 h1, inPt_pos]
theorem setL_bd (b : Int) : (Ref.setL b).length ≤ 10 := by
 unfold Ref.setL
 (repeat' split) <;> first | decide | simp
theorem escapeF_bd (cls : Bool) (st : St) : (Ref.escapeF s cls st).1.spans.length ≤ 10 := by
 unfold Ref.escapeF
 split
 · simp
 · split
   · exact setL_bd _
   · simp
theorem memberF_bd (st : St) : (Ref.memberF s st).1.spans.length ≤ 10 := by
 unfold Ref.memberF
 split
 · exact escapeF_bd true st
 · split <;> simp
theorem classF_bd : ∀ (f : Nat) (ps : List Pt) (st : St), (∀ p ∈ ps, p.spans.length ≤ 10) → (∀ p ∈ (Ref.classF s f ps st).1, p.spans.length ≤ 10) ∧ (Ref.classF s f ps st).1.length ≤ ps.length + f
 | 0, ps, st, h => ⟨h, by simp [Ref.classF]⟩
 | f + 1, ps, st, h => by
   simp only [Ref.classF]
   split
   · split
     · exact ⟨h, by simp⟩
     · split
       · split
         · exact ⟨h, by simp⟩
         · split
           · exact ⟨h, by simp⟩
           · have := classF_bd f (ps ++ [⟨(Ref.memberF s st).1.neg, [(Ref.loOf (Ref.memberF s st).1, Ref.loOf (Ref.memberF s ((Ref.memberF s st).2.2.go 1)).1)]⟩]) (Ref.memberF s ((Ref.memberF s st).2.2.go 1)).2.2 (fun p hp => by
               rcases List.mem_append.1 hp with hp | hp
               · exact h p hp
               · simp at hp; subst hp; simp)
             exact ⟨this.1, by have := this.2; simp at this; omega⟩
       · have := classF_bd f (ps ++ [(Ref.memberF s st).1]) (Ref.memberF s st).2.2 (fun p hp => by
           rcases List.mem_append.1 hp with hp | hp
           · exact h p hp
           · simp at hp; subst hp; exact memberF_bd st)
         exact ⟨this.1, by have := this.2; simp at this; omega⟩
   · exact ⟨h, by simp⟩
theorem class_tree : ∀ (f g : Nat) (ps : List Pt) (R : List (Int × Int)) (S : List Int) (n p : Nat), Br s L n p → L.length < n + f → s.size < p + g → (Pro.classO L (s.size : Nat) f n).k = 0 → (∀ c, anyPt ps c = anyRS R S c) →
   ∀ c, anyPt (Ref.classF s g ps (st0 p)).1 c = anyRS (Pro.classX L (s.size : Nat) f n R S).1 (Pro.classX L (s.size : Nat) f n R S).2 c
 | 0, g, ps, R, S, n, p, h, hf, hg, _, _ => by have := h.le; omega
 | f + 1, 0, ps, R, S, n, p, h, hf, hg, _, _ => by have := h.good.le; omega
 | f + 1, g + 1, ps, R, S, n, p, h, hf, hg, hk0, hps => by
   simp only [Pro.classO] at hk0
   simp only [Pro.classX]
   by_cases h93 : byteAt s p = 93
   · rw [if_pos ((h.eqv 93 (by omega)).2 h93), Ref.classF_end (fun hh => hh.2 h93)]
     exact hps
   · have hc : (st0 p).e = 0 ∧ byteAt s (st0 p).i ≠ 93 := ⟨rfl, h93⟩
     have n93 : ¬ Pro.letAt L n = 93 := fun hh => h93 ((h.eqv 93 (by omega)).1 hh)
     rw [if_neg n93] at hk0 ⊢
     by_cases hlt : p < s.size
     · have hln := h.lt.2 hlt
       have hb0 := (byteAt_nonneg s p).2 hlt
       have hc1 : ¬ byteAt s (st0 p).i < 0 := by show ¬ byteAt s p < 0; omega
       rw [if_neg (by omega)] at hk0
       have hka : (Pro.addO L (s.size : Nat) n).k = 0 := by
         by_cases hh : (Pro.addO L (s.size : Nat) n).k = 0
         · exact hh
         · rw [if_pos hh] at hk0; exact absurd hk0 hh
       rw [if_neg (by simp [hka])] at hk0
       have hm := member_same h hlt
       have hmi := Pro.memberO_in (L := L) (len := (s.size : Nat)) n hln
       have hk : (Pro.memberO L (s.size : Nat) n).k = 0 := by
         by_cases hh : (Pro.memberO L (s.size : Nat) n).k = 0
         · exact hh
         · have ha : Pro.addO L (s.size : Nat) n = Pro.memberO L (s.size : Nat) n := by unfold Pro.addO; rw [if_pos hh]
           rw [ha] at hka; exact absurd hka hh
       obtain ⟨m1, m2, _, hb1⟩ := hm.1.1 hk
       have hst := st_eta m1 m2
       have hd := dash_same hb1
       have htk := member_takes h hlt hk
       cases hdd : Pro.dashB L (Pro.memberO L (s.size : Nat) n).n
       · rw [hdd] at hd
         have ha : Pro.addO L (s.size : Nat) n = Pro.memberO L (s.size : Nat) n := by unfold Pro.addO; rw [if_neg (by simp [hk]), if_neg (by simp [hdd])]
         rw [ha] at hk0 ⊢
         rw [Ref.classF_one hc hc1 (by rw [hst, ← hd]; simp), hst]
         have hgt : p < (Ref.memberF s (st0 p)).2.2.i := by
           have := hb1.good.le
           by_cases hh : p < (Ref.memberF s (st0 p)).2.2.i
           · exact hh
           · exfalso
             have := br_mono h hb1 (by omega)
             omega
         refine class_tree f g _ _ _ _ _ hb1 (by omega) (by omega) hk0 (fun c => ?_)
         rw [anyPt_snoc, hps c, htk c]
         by_cases hmn : Pro.many L n = true
         · have e1 : Pro.addR L (s.size : Nat) n R = R := by unfold Pro.addR; rw [if_neg (by simp [hdd]), if_pos hmn]
           have e2 : Pro.addS L (s.size : Nat) n S = S ++ [(Pro.memberO L (s.size : Nat) n).v] := by unfold Pro.addS; rw [if_neg (by simp [hdd]), if_pos hmn]
           rw [if_pos hmn, e1, e2, anyRS_s]
         · have e1 : Pro.addR L (s.size : Nat) n R = R ++ [((Pro.memberO L (s.size : Nat) n).v, (Pro.memberO L (s.size : Nat) n).v)] := by unfold Pro.addR; rw [if_neg (by simp [hdd]), if_neg hmn]
           have e2 : Pro.addS L (s.size : Nat) n S = S := by unfold Pro.addS; rw [if_neg (by simp [hdd]), if_neg hmn]
           rw [if_neg hmn, e1, e2, anyRS_r]
       · rw [hdd] at hd
         have hdy := Pro.dashB_yes hdd
         have h45 := (hb1.eqv 45 (by omega)).1 hdy.1
         have hb2 := hb1.go h45 (by omega) (by omega)
         have hlt2 : (Ref.memberF s (st0 p)).2.2.i + 1 < s.size := by
           by_cases hh : (Ref.memberF s (st0 p)).2.2.i + 1 < s.size
           · exact hh
           · exact absurd ((hb2.eqv (-1) (by omega)).2 (byteAt_out _ _ (by omega))) hdy.2.2
         have hm2 := member_same hb2 hlt2
         have hgo : (Ref.memberF s (st0 p)).2.2.go 1 = st0 ((Ref.memberF s (st0 p)).2.2.i + 1) := by rw [hst]; rfl
         have hr2 : Ref.rangeB s (Ref.memberF s (st0 p)).2.2 = true := by rw [hst]; exact hd.symm
         have hmi2 := Pro.memberO_in (L := L) (len := (s.size : Nat)) ((Pro.memberO L (s.size : Nat) n).n + 1) (Pro.letAt_ne hdy.2.2)
         have hro : Pro.addO L (s.size : Nat) n = Pro.rangeO L (s.size : Nat) (Pro.many L n) (Pro.memberO L (s.size : Nat) n).v (Pro.memberO L (s.size : Nat) n).n := by unfold Pro.addO; rw [if_neg (by simp [hk]), if_pos hdd]
         have hk2 : (Pro.memberO L (s.size : Nat) ((Pro.memberO L (s.size : Nat) n).n + 1)).k = 0 := by
           by_cases hh : (Pro.memberO L (s.size : Nat) ((Pro.memberO L (s.size : Nat) n).n + 1)).k = 0
           · exact hh
           · rw [hro] at hka; unfold Pro.rangeO at hka; rw [if_pos hh] at hka; exact absurd hka hh
         have hbb : ¬ (Pro.many L n = true ∨ Pro.many L ((Pro.memberO L (s.size : Nat) n).n + 1) = true ∨ (Pro.memberO L (s.size : Nat) ((Pro.memberO L (s.size : Nat) n).n + 1)).v < (Pro.memberO L (s.size : Nat) n).v) := fun hh => by
           rw [hro] at hka; unfold Pro.rangeO at hka; rw [if_neg (by simp [hk2]), if_pos hh] at hka; exact absurd hka (by simp [Pro.bad])
         obtain ⟨p1, p2, _, hb3⟩ := hm2.1.1 hk2
         have hst2 := st_eta p1 p2
         obtain ⟨hone, hlo⟩ := hm.2 hk
         obtain ⟨htwo, hlo2⟩ := hm2.2 hk2
         have q1 : Pro.many L n = false := by cases hq : Pro.many L n; rfl; exact absurd (.inl hq) hbb
         have q2 : Pro.many L ((Pro.memberO L (s.size : Nat) n).n + 1) = false := by cases hq : Pro.many L ((Pro.memberO L (s.size : Nat) n).n + 1); rfl; exact absurd (.inr (.inl hq)) hbb
         rw [q1] at hone
         rw [q2] at htwo
         have hbad : ¬ Ref.badB (Ref.memberF s (st0 p)).1 (Ref.memberF s ((Ref.memberF s (st0 p)).2.2.go 1)).1 (Ref.memberF s (st0 p)).2.1 (Ref.memberF s ((Ref.memberF s (st0 p)).2.2.go 1)).2.1 = true := by
           rw [hgo]
           unfold Ref.badB
           rw [hlo hone, hlo2 htwo, hone, htwo]
           have hv : ¬ (Pro.memberO L (s.size : Nat) ((Pro.memberO L (s.size : Nat) n).n + 1)).v < (Pro.memberO L (s.size : Nat) n).v := fun hh => hbb (.inr (.inr hh))
           simp [Ref.loOf, hv]
         have ha : Pro.addO L (s.size : Nat) n = Pro.memberO L (s.size : Nat) ((Pro.memberO L (s.size : Nat) n).n + 1) := by
           rw [hro]; unfold Pro.rangeO; rw [if_neg (by simp [hk2]), if_neg hbb]
         rw [ha] at hk0 ⊢
         rw [Ref.classF_range hc hc1 hr2 (by rw [hgo]; exact p1) hbad, hgo, hst2]
         have hgt : p < (Ref.memberF s (st0 ((Ref.memberF s (st0 p)).2.2.i + 1))).2.2.i := by
           by_cases hh : p < (Ref.memberF s (st0 ((Ref.memberF s (st0 p)).2.2.i + 1))).2.2.i
           · exact hh
           · exfalso
             have := br_mono h hb3 (by omega)
             omega
         refine class_tree f g _ _ _ _ _ hb3 (by omega) (by omega) hk0 (fun c => ?_)
         rw [anyPt_snoc, hps c, hlo hone, hlo2 htwo, inPt_pos]
         unfold Pro.addR Pro.addS
         rw [if_pos hdd, if_pos hdd, anyRS_r]
         rfl
     · have hend := h.stop hlt
       rw [if_pos (by omega)] at hk0
       exact absurd hk0 (by simp [Pro.bad])
end Eqv
end Go.Proofs.YtnagphodmfejiaaGreatDoor
namespace Go.Proofs.YtnagphodmfejiaaGreatDoor
namespace Cs
open Eqv (inSp)
def isCh (c : Int) : Bool := (decide (0 ≤ c) && decide (c ≤ 55295)) || (decide (57344 ≤ c) && decide (c ≤ 1114111))
def in1 (x : Int × Int) (c : Int) : Bool := decide (x.1 ≤ c) && decide (c ≤ x.2)
theorem inSp_append (a b : List (Int × Int)) (c : Int) : inSp (a ++ b) c = (inSp a c || inSp b c) := by simp [inSp]
theorem inSp_one (x : Int × Int) (c : Int) : inSp [x] c = in1 x c := by simp [inSp, in1]
theorem inSp_cons (x : Int × Int) (r : List (Int × Int)) (c : Int) : inSp (x :: r) c = (in1 x c || inSp r c) := by simp [inSp, in1]
theorem inSp_iff (sp : List (Int × Int)) (c : Int) : inSp sp c = true ↔ ∃ x ∈ sp, x.1 ≤ c ∧ c ≤ x.2 := by simp [inSp]
theorem in1_iff (x : Int × Int) (c : Int) : in1 x c = true ↔ x.1 ≤ c ∧ c ≤ x.2 := by simp [in1]
theorem isCh_iff (c : Int) : isCh c = true ↔ (0 ≤ c ∧ c ≤ 55295) ∨ (57344 ≤ c ∧ c ≤ 1114111) := by simp [isCh]
def okS (x : Int × Int) : Prop := x.1 ≤ x.2 ∧ 0 ≤ x.1 ∧ x.2 ≤ 1114111
def Rising (sp : List (Int × Int)) : Prop := sp.Pairwise (fun x y => x.2 + 1 < y.1) ∧ ∀ x ∈ sp, okS x
def clip (lo hi : Int) (r : Int × Int) : List (Int × Int) := if max r.1 lo ≤ min r.2 hi then [(max r.1 lo, min r.2 hi)] else []
def clips (r : Int × Int) : List (Int × Int) := clip 0 55295 r ++ clip 57344 1114111 r
def spl (rs : List (Int × Int)) : List (Int × Int) := rs.flatMap clips
theorem clip_in (lo hi : Int) (r : Int × Int) (c : Int) : inSp (clip lo hi r) c = true ↔ (lo ≤ c ∧ c ≤ hi) ∧ r.1 ≤ c ∧ c ≤ r.2 := by
 unfold clip
 split
 · rw [inSp_one, in1_iff]; simp only; omega
 · simp [inSp]; omega
theorem clips_in (r : Int × Int) (c : Int) : inSp (clips r) c = (isCh c && in1 r c) := by
 rw [Bool.eq_iff_iff, Bool.and_eq_true, isCh_iff, in1_iff]
 unfold clips
 rw [inSp_append, Bool.or_eq_true, clip_in, clip_in]
 omega
theorem spl_in : ∀ (rs : List (Int × Int)) (c : Int), inSp (spl rs) c = (isCh c && inSp rs c)
 | [], c => by simp [spl, inSp]
 | r :: rs, c => by
   show inSp (clips r ++ spl rs) c = _
   rw [inSp_append, clips_in, spl_in rs c, inSp_cons, ← Bool.and_or_distrib_left]
theorem clip_ok {lo hi : Int} {r : Int × Int} (h0 : 0 ≤ lo) (h1 : hi ≤ 1114111) : ∀ x ∈ clip lo hi r, okS x := by
 intro x hx
 unfold clip at hx
 split at hx
 · obtain rfl := List.mem_singleton.1 hx
   refine ⟨?_, ?_, ?_⟩ <;> simp only <;> omega
 · cases hx
theorem spl_ok (rs : List (Int × Int)) : ∀ x ∈ spl rs, okS x := by
 intro x hx
 obtain ⟨r, _, hr⟩ := List.mem_flatMap.1 hx
 rcases List.mem_append.1 hr with h | h
 · exact clip_ok (by omega) (by omega) x h
 · exact clip_ok (by omega) (by omega) x h
def jn1 (acc : List (Int × Int)) (s : Int × Int) : List (Int × Int) :=
 match acc.getLast? with
 | some l => if s.1 ≤ l.2 + 1 then acc.dropLast ++ [(l.1, max l.2 s.2)] else acc ++ [s]
 | none => [s]
def jn (acc xs : List (Int × Int)) : List (Int × Int) := xs.foldl jn1 acc
theorem jn1_nil (s : Int × Int) : jn1 [] s = [s] := rfl
theorem jn1_old {init : List (Int × Int)} {l s : Int × Int} (h : s.1 ≤ l.2 + 1) : jn1 (init ++ [l]) s = init ++ [(l.1, max l.2 s.2)] := by simp [jn1, h]
theorem jn1_new {init : List (Int × Int)} {l s : Int × Int} (h : ¬ s.1 ≤ l.2 + 1) : jn1 (init ++ [l]) s = init ++ [l] ++ [s] := by simp [jn1, h]
theorem nil_or_last (xs : List (Int × Int)) : xs = [] ∨ ∃ init l, xs = init ++ [l] := by
 rcases List.eq_nil_or_concat xs with h | ⟨i, l, h⟩
 · exact .inl h
 · exact .inr ⟨i, l, by simpa using h⟩
theorem jn1_ok {acc : List (Int × Int)} {s : Int × Int} (h : Rising acc) (hs : okS s) (hl : ∀ l, acc.getLast? = some l → l.1 ≤ s.1) :
   Rising (jn1 acc s) ∧ (∀ c, inSp (jn1 acc s) c = (inSp acc c || in1 s c)) ∧ ∀ l, (jn1 acc s).getLast? = some l → l.1 ≤ s.1 := by
 rcases nil_or_last acc with rfl | ⟨init, l, rfl⟩
 · rw [jn1_nil]
   refine ⟨⟨by simp, fun x hx => ?_⟩, fun c => by rw [inSp_one]; simp [inSp], fun l e => ?_⟩
   · obtain rfl := List.mem_singleton.1 hx; exact hs
   · cases e; exact Int.le_refl _
 · have hls := hl l (by simp)
   have hlo := h.2 l (by simp)
   have hp := List.pairwise_append.1 h.1
   by_cases hc : s.1 ≤ l.2 + 1
   · rw [jn1_old hc]
     refine ⟨⟨List.pairwise_append.2 ⟨hp.1, by simp, fun a ha b hb => ?_⟩, fun x hx => ?_⟩, fun c => ?_, fun l' e => ?_⟩
     · obtain rfl := List.mem_singleton.1 hb
       exact hp.2.2 a ha l (by simp)
     · rcases List.mem_append.1 hx with hx | hx
       · exact h.2 x (List.mem_append_left _ hx)
       · obtain rfl := List.mem_singleton.1 hx
         unfold okS at hlo hs ⊢
         simp only
         omega
     · rw [inSp_append, inSp_append, inSp_one, inSp_one, Bool.or_assoc]
       congr 1
       rw [Bool.eq_iff_iff, Bool.or_eq_true, in1_iff, in1_iff, in1_iff]
       unfold okS at hlo hs
       simp only
       omega
     · simp at e; subst e; exact hls
   · rw [jn1_new hc]
     refine ⟨⟨List.pairwise_append.2 ⟨h.1, by simp, fun a ha b hb => ?_⟩, fun x hx => ?_⟩, fun c => ?_, fun l' e => ?_⟩
     · obtain rfl := List.mem_singleton.1 hb
       rcases List.mem_append.1 ha with ha | ha
       · have := hp.2.2 a ha l (by simp)
         omega
       · obtain rfl := List.mem_singleton.1 ha
         omega
     · rcases List.mem_append.1 hx with hx | hx
       · exact h.2 x hx
       · obtain rfl := List.mem_singleton.1 hx; exact hs
     · rw [inSp_append _ [s], inSp_one]
     · simp at e; subst e; exact Int.le_refl _
theorem jn_ok : ∀ (xs acc : List (Int × Int)), Rising acc → (∀ x ∈ xs, okS x) → xs.Pairwise (fun x y => x.1 ≤ y.1) → (∀ l, acc.getLast? = some l → ∀ x ∈ xs, l.1 ≤ x.1) →
   Rising (jn acc xs) ∧ ∀ c, inSp (jn acc xs) c = (inSp acc c || inSp xs c)
 | [], acc, h, _, _, _ => ⟨h, fun c => by simp [jn, inSp]⟩
 | s :: xs, acc, h, ho, hp, hl => by
   obtain ⟨h1, h2, h3⟩ := jn1_ok h (ho s (List.mem_cons_self ..)) (fun l e => hl l e s (List.mem_cons_self ..))
   obtain ⟨hp1, hp2⟩ := List.pairwise_cons.1 hp
   obtain ⟨r1, r2⟩ := jn_ok xs (jn1 acc s) h1 (fun x hx => ho x (List.mem_cons_of_mem _ hx)) hp2 (fun l e x hx => Int.le_trans (h3 l e) (hp1 x hx))
   refine ⟨r1, fun c => ?_⟩
   show inSp (jn (jn1 acc s) xs) c = _
   rw [r2, h2, inSp_cons, Bool.or_assoc]
theorem of_ok {rs xs : List (Int × Int)} (hp : xs.Perm (spl rs)) (hs : xs.Pairwise (fun x y => x.1 ≤ y.1)) : Rising (jn [] xs) ∧ ∀ c, inSp (jn [] xs) c = (isCh c && inSp rs c) := by
 obtain ⟨h1, h2⟩ := jn_ok xs [] ⟨by simp, by simp⟩ (fun x hx => spl_ok rs x (hp.mem_iff.1 hx)) hs (by simp)
 refine ⟨h1, fun c => ?_⟩
 rw [h2, ← spl_in]
 simp only [inSp, List.any_nil, Bool.false_or]
 exact hp.any_eq
def gaps : Int → List (Int × Int) → List (Int × Int)
 | b, [] => [(b, 1114111)]
 | b, x :: r => (b, x.1 - 1) :: gaps (x.2 + 1) r
theorem gaps_ge : ∀ (sp : List (Int × Int)) (b : Int), (∀ x ∈ sp, b ≤ x.1) → Rising sp → ∀ y ∈ gaps b sp, b ≤ y.1
 | [], b, _, _, y, hy => by
   obtain rfl := List.mem_singleton.1 (show y ∈ [(b, 1114111)] from hy)
   exact Int.le_refl _
 | x :: r, b, hb, h, y, hy => by
   obtain ⟨hp1, hp2⟩ := List.pairwise_cons.1 h.1
   have hx := h.2 x (List.mem_cons_self ..)
   have hbx := hb x (List.mem_cons_self ..)
   rcases List.mem_cons.1 (show y ∈ (b, x.1 - 1) :: gaps (x.2 + 1) r from hy) with rfl | hy
   · exact Int.le_refl _
   · have := gaps_ge r (x.2 + 1) (fun z hz => by have := hp1 z hz; omega) ⟨hp2, fun z hz => h.2 z (List.mem_cons_of_mem _ hz)⟩ y hy
     unfold okS at hx
     omega
theorem gaps_in : ∀ (sp : List (Int × Int)) (b c : Int), Rising sp → (∀ x ∈ sp, b ≤ x.1) → b ≤ c → c ≤ 1114111 → inSp (gaps b sp) c = !inSp sp c
 | [], b, c, _, _, h0, h1 => by
   show inSp [(b, 1114111)] c = _
   rw [inSp_one]
   simp [inSp, in1, h0, h1]
 | x :: r, b, c, h, hb, h0, h1 => by
   obtain ⟨hp1, hp2⟩ := List.pairwise_cons.1 h.1
   have hx := h.2 x (List.mem_cons_self ..)
   have hr : Rising r := ⟨hp2, fun y hy => h.2 y (List.mem_cons_of_mem _ hy)⟩
   have hbx := hb x (List.mem_cons_self ..)
   show inSp ((b, x.1 - 1) :: gaps (x.2 + 1) r) c = _
   rw [inSp_cons, inSp_cons]
   by_cases hc : x.2 + 1 ≤ c
   · rw [gaps_in r (x.2 + 1) c hr (fun y hy => by have := hp1 y hy; omega) hc h1]
     have e1 : in1 (b, x.1 - 1) c = false := by rw [Bool.eq_false_iff, ne_eq, in1_iff]; unfold okS at hx; simp only; omega
     have e2 : in1 x c = false := by rw [Bool.eq_false_iff, ne_eq, in1_iff]; omega
     rw [e1, e2]; simp
   · have e3 : inSp (gaps (x.2 + 1) r) c = false := by
       rw [Bool.eq_false_iff, ne_eq, inSp_iff]
       rintro ⟨y, hy, hyc⟩
       exact absurd hyc.1 (by have := gaps_ge r (x.2 + 1) (fun y hy => by have := hp1 y hy; omega) hr y hy; omega)
     have e4 : inSp r c = false := by
       rw [Bool.eq_false_iff, ne_eq, inSp_iff]
       rintro ⟨y, hy, hyc⟩
       have := hp1 y hy
       omega
     rw [e3, e4, Bool.or_false, Bool.or_false, Bool.eq_iff_iff, Bool.not_eq_true', Bool.eq_false_iff, ne_eq, in1_iff, in1_iff]
     simp only
     omega
theorem not_ok {sp : List (Int × Int)} (h : Rising sp) (c : Int) : (isCh c && inSp (gaps 0 sp) c) = (isCh c && !inSp sp c) := by
 by_cases hc : isCh c = true
 · rw [gaps_in sp 0 c h (fun x hx => (h.2 x hx).2.1) (by have := (isCh_iff c).1 hc; omega) (by have := (isCh_iff c).1 hc; omega)]
 · simp [hc]
end Cs
end Go.Proofs.YtnagphodmfejiaaGreatDoor
