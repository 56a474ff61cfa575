/- The reader beside the lexer: alternatives, groups, the whole. The machine's characters beside the lexer's. The reference's sizes: an atom without its brackets. -/
import Derived.Test.YtnagphodmfejiaaGreatDoorKSetBEqK
import Derived.Test.YtnagphodmfejiaaGreatDoorKParATrA
import Derived.Test.YtnagphodmfejiaaGreatDoorKEqAEqE
import Derived.Test.YtnagphodmfejiaaGreatDoorKChAChB
import Derived.Test.YtnagphodmfejiaaGreatDoorKEqFSetA
namespace Go.Proofs.YtnagphodmfejiaaGreatDoor
open Go.RowKit
open Sm (Tree)
namespace Eqv
variable {s : ByteArray} {L : List (Int × Int)}
theorem alt_goes (hs4 : s.size ≤ 400) {op : Int} {D : Nat → Pro.Out} {F : Nat} {DT : Nat → Tree} (hD : GroupGoes s L op D (F + 1) DT) (hDO : Pro.DOK L D) (hop : 0 ≤ op) : ∀ (g f : Nat) (l : List Tok) (zs : List Int) (n p : Nat), Br s L n p → s.size < p + f → L.length < n + g → (∀ z ∈ zs, 0 ≤ z) →
   Goes s L f l op false p (Pro.altO L (s.size : Nat) D g zs n) (fun ts => (Ref.Bal ts ∧ Ref.headKind ts ≠ 6 ∧ ∀ us, Ref.AddsTo us (min (Pro.sumS 0 zs + zs.length) 301) → Ref.AddsTo (us ++ ts) (Pro.altO L (s.size : Nat) D g zs n).v) ∧ ∃ new, (∀ ys, Pro.altT L (s.size : Nat) D DT g ys n = ys ++ new) ∧ TokC (TokA (F + 2)) ts new) ∧ ((Pro.altO L (s.size : Nat) D g zs n).k = 0 → Pro.stopB L (Pro.altO L (s.size : Nat) D g zs n).n = true ∧ Pro.letAt L (Pro.altO L (s.size : Nat) D g zs n).n ≠ 124)
 | 0, f, l, zs, n, p, h, hf, hg, hz => by have := h.le; omega
 | g + 1, f, l, zs, n, p, h, hf, hg, hz => by
   have hle := h.le
   have hsb := Pro.sumS_bd zs 0 (by omega) (by omega) hz
   obtain ⟨t1, t2⟩ := terms_goes hs4 hD hDO hop (L.length + 1 - n) f l 0 false n p h hf (by omega) (fun hh => by cases hh) (by omega) (by omega)
   have htin := Pro.termsP_in (len := (s.size : Nat)) hDO n hle
   have e0 : Pro.termsP L (s.size : Nat) D n = Pro.termsO L (s.size : Nat) D (L.length + 1 - n) 0 n := rfl
   rw [← e0] at t1 t2
   simp only [Pro.altO]
   by_cases hk : (Pro.termsP L (s.size : Nat) D n).k = 0
   · rw [if_neg (by simp [hk])]
     obtain ⟨ts, f1, p1, at1, e1, b1, hf1, ha1, ⟨hB, h6, hadd⟩, tn, htn, htoks⟩ := t1.2 hk
     have htq : Pro.termsQ L (s.size : Nat) D DT n = Pro.tSeq tn := by unfold Pro.termsQ; rw [htn, List.nil_append]
     have hstop := t2 hk
     have hts : Ref.AddsTo ts (Pro.termsP L (s.size : Nat) D n).v := hadd [] Ref.AddsTo.nil
     have hvb := htin.2.2 hk
     have happ := Pro.sumS_append zs 0 (Pro.termsP L (s.size : Nat) D n).v
     by_cases hbar : Pro.letAt L (Pro.termsP L (s.size : Nat) D n).n = 124
     · rw [if_pos hbar]
       have hb := (b1.eqv 124 (by omega)).1 hbar
       have hlt1 : p1 < s.size := (byteAt_nonneg s p1).1 (by omega)
       have b2 := b1.go hb (by omega) (by omega)
       obtain ⟨f1, rfl⟩ : ∃ f', f1 = f' + 1 := ⟨f1 - 1, by omega⟩
       have et : Ref.tokenF s (st0 p1) = (⟨5, false, [], 0, 0, 0⟩, st0 (p1 + 1)) := by
         have hi : (st0 p1).i = p1 := rfl
         unfold Ref.tokenF; rw [hi, if_neg (by omega), if_neg (by omega), if_pos hb, go0]
       have hst : Ref.tokensF s (f1 + 1) (l ++ ts) op at1 (st0 p1) = Ref.tokensF s f1 (l ++ ts ++ [⟨5, false, [], 0, 0, 0⟩]) op false (st0 (p1 + 1)) := by
         rw [Ref.tokensF_tok (st := st0 p1) ⟨hlt1, rfl⟩ (no_q ha1) (fun hh => by have : byteAt s p1 = 40 := hh.1; omega), et]
         simp only []
         have e5 : Ref.turnO 5 op = op := by unfold Ref.turnO; simp
         rw [e5, if_neg (by omega)]
         rfl
       have hz' : ∀ z ∈ zs ++ [(Pro.termsP L (s.size : Nat) D n).v], 0 ≤ z := by
         intro z hzm
         rcases List.mem_append.1 hzm with hm | hm
         · exact hz z hm
         · simp at hm; omega
       obtain ⟨r1, r2⟩ := alt_goes hs4 hD hDO hop g f1 (l ++ ts ++ [⟨5, false, [], 0, 0, 0⟩]) (zs ++ [(Pro.termsP L (s.size : Nat) D n).v]) _ (p1 + 1) b2 (by omega) (by omega) hz'
       refine ⟨⟨fun hh => by rw [e1, hst]; exact r1.1 hh, fun hh => ?_⟩, r2⟩
       obtain ⟨us, f2, p2, at2, e2, b3, hf2, ha2, ⟨hB2, h62, hadd2⟩, an, han, pre, fin, init, last, c1, c2, c3, c4, c5⟩ := r1.2 hh
       refine ⟨ts ++ [⟨5, false, [], 0, 0, 0⟩] ++ us, f2, p2, at2, by rw [e1, hst, e2]; simp only [List.append_assoc], b3, hf2, ha2, ⟨(hB.append (Ref.Bal.one (show (5 : Int) ≠ 3 by decide) (show (5 : Int) ≠ 4 by decide) (tokB0 rfl rfl))).append hB2, ?_, fun ws hw => ?_⟩, Pro.tSeq tn :: an, fun ys => ?_, ts ++ [⟨5, false, [], 0, 0, 0⟩] ++ pre, fin, Pro.tSeq tn :: init, last, by rw [c1]; simp only [List.append_assoc], by rw [c2]; rfl, ⟨ts, pre, ⟨5, false, [], 0, 0, 0⟩, by simp, rfl, rfl, htoks, c3⟩, c4, c5⟩
       · cases ts with
         | nil => exact (show (5 : Int) ≠ 6 by decide)
         | cons t r => exact h6
       · rw [← List.append_assoc, ← List.append_assoc]
         refine hadd2 _ ?_
         have h1 := hw.append hts (by omega) hvb.1 h6
         have h2 := h1.append (Ref.AddsTo.bar (t := ⟨5, false, [], 0, 0, 0⟩) rfl) (by omega) (by omega) (show (5 : Int) ≠ 6 by decide)
         refine h2.weak ?_ (by omega) ?_
         · rw [happ, List.length_append]; simp only [List.length_cons, List.length_nil]; omega
         · rw [happ]; omega
       · simp only [Pro.altT]; rw [if_pos hbar, htq, han, List.append_assoc]; rfl
     · rw [if_neg hbar]
       refine ⟨⟨fun hh => absurd rfl hh, fun _ => ⟨ts, f1, p1, at1, e1, b1, hf1, ha1, ⟨hB, h6, fun ws hw => ?_⟩, [Pro.tSeq tn], fun ys => by simp only [Pro.altT]; rw [if_neg hbar, htq], [], ts, [], Pro.tSeq tn, rfl, rfl, rfl, rfl, htoks⟩⟩, fun _ => ⟨hstop, hbar⟩⟩
       have h1 := hw.append hts (by omega) hvb.1 h6
       refine h1.weak ?_ (by omega) ?_
       · show min (min (min (Pro.sumS 0 zs + zs.length) 301 + _) 301) 301 = min (min (Pro.sumS 0 (zs ++ [_]) + ((zs.length : Int) + 1) - 1) 301) 301
         rw [happ]; omega
       · show 0 ≤ min (Pro.sumS 0 (zs ++ [_]) + ((zs.length : Int) + 1) - 1) 301
         rw [happ]; omega
   · rw [if_pos hk]
     exact ⟨⟨t1.1, fun hh => absurd hh hk⟩, fun hh => absurd hh hk⟩
theorem group_zero : GroupGoes s L 10 (Pro.deepO L (s.size : Nat) 0) 1 (Pro.deepT L (s.size : Nat) 0) := by
 intro f l atom n p h hf hb
 have hlt : p < s.size := (byteAt_nonneg s p).1 (by omega)
 obtain ⟨f, rfl⟩ : ∃ f', f = f' + 1 := ⟨f - 1, by omega⟩
 refine ⟨fun _ => ⟨[], ?_⟩, fun hh => absurd hh (by simp [Pro.deepO, Pro.bad])⟩
 rw [Ref.tokensF_deep (st := st0 p) ⟨hlt, rfl⟩ (fun hh => by have : Ref.quantB (byteAt s p) = true := hh.2; rw [hb] at this; exact absurd this (by decide)) ⟨hb, rfl⟩]
 show ([], (7 : Int), (p : Int)) = ([], ((7 : Nat) : Int), Pro.placeAt L (s.size : Nat) n)
 rw [h.place]; rfl
theorem group_succ (hs4 : s.size ≤ 400) {op : Int} {r F : Nat} (hop : 0 ≤ op) (h10 : op < 10) (hD : GroupGoes s L (op + 1) (Pro.deepO L (s.size : Nat) r) (F + 1) (Pro.deepT L (s.size : Nat) r)) : GroupGoes s L op (Pro.deepO L (s.size : Nat) (r + 1)) (F + 3) (Pro.deepT L (s.size : Nat) (r + 1)) := by
 intro f l atom n p h hf hb
 have hlt : p < s.size := (byteAt_nonneg s p).1 (by omega)
 have hnl := h.lt.2 hlt
 obtain ⟨f, rfl⟩ : ∃ f', f = f' + 1 := ⟨f - 1, by omega⟩
 have hi : (st0 p).i = p := rfl
 have et : Ref.tokenF s (st0 p) = (⟨3, false, [], 0, 0, 0⟩, Ref.openF s (st0 p)) := by
   unfold Ref.tokenF; rw [hi, if_neg (by omega), if_neg (by omega), if_neg (by omega), if_neg (by omega), if_neg (by omega), if_neg (by omega), if_pos hb]
 have hnq : ¬ (atom = true ∧ Ref.quantB (byteAt s (st0 p).i) = true) := fun hh => by have : Ref.quantB (byteAt s p) = true := hh.2; rw [hb] at this; exact absurd this (by decide)
 have hst : Ref.tokensF s (f + 1) l op atom (st0 p) = Ref.tokensF s f (l ++ [⟨3, false, [], 0, 0, 0⟩]) (op + 1) false (Ref.openF s (st0 p)) := by
   rw [Ref.tokensF_tok (st := st0 p) ⟨hlt, rfl⟩ hnq (fun hh => by have := hh.2; omega), et]
   simp only []
   have e3 : Ref.turnO 3 op = op + 1 := by unfold Ref.turnO; simp
   rw [e3, if_neg (by omega)]
   rfl
 have hos := open_same h hb
 have hoi := Pro.openO_in (L := L) (len := (s.size : Nat)) n hnl
 rw [hst]
 simp only [Pro.deepO]
 unfold Pro.groupO
 by_cases hk1 : (Pro.openO L (s.size : Nat) n).k = 0
 · obtain ⟨a1, a2, _, b1⟩ := hos.1 hk1
   rw [if_neg (by simp [hk1]), st_eta a1 a2]
   have hgt : p < (Ref.openF s (st0 p)).i := by
     by_cases hh : p < (Ref.openF s (st0 p)).i
     · exact hh
     · exfalso
       have := br_mono h b1 (by omega)
       omega
   have hble := b1.le
   obtain ⟨r1, r2⟩ := alt_goes hs4 hD (Pro.deepO_in r) (by omega) (L.length + 1 - (Pro.openO L (s.size : Nat) n).n) f (l ++ [⟨3, false, [], 0, 0, 0⟩]) [] (Pro.openO L (s.size : Nat) n).n _ b1 (by omega) (by omega) (by simp)
   have e0 : Pro.altP L (s.size : Nat) (Pro.deepO L (s.size : Nat) r) (Pro.openO L (s.size : Nat) n).n = Pro.altO L (s.size : Nat) (Pro.deepO L (s.size : Nat) r) (L.length + 1 - (Pro.openO L (s.size : Nat) n).n) [] (Pro.openO L (s.size : Nat) n).n := rfl
   rw [← e0] at r1 r2
   have hai := Pro.altP_in (L := L) (len := (s.size : Nat)) (D := Pro.deepO L (s.size : Nat) r) (Pro.deepO_in r) (Pro.openO L (s.size : Nat) n).n hoi.2
   by_cases hk2 : (Pro.altP L (s.size : Nat) (Pro.deepO L (s.size : Nat) r) (Pro.openO L (s.size : Nat) n).n).k = 0
   · rw [if_neg (by simp [hk2])]
     obtain ⟨ts, f2, p2, at2, e2, b2, hf2, ha2, ⟨hB, _, hadd⟩, an, han, htc⟩ := r1.2 hk2
     obtain ⟨hs1, hs2⟩ := r2 hk2
     have hts : Ref.AddsTo ts (Pro.altP L (s.size : Nat) (Pro.deepO L (s.size : Nat) r) (Pro.openO L (s.size : Nat) n).n).v := hadd [] (by exact Ref.AddsTo.nil)
     have hvb := hai.2.2 hk2
     rw [e2]
     by_cases h41 : Pro.letAt L (Pro.altP L (s.size : Nat) (Pro.deepO L (s.size : Nat) r) (Pro.openO L (s.size : Nat) n).n).n = 41
     · rw [if_pos h41]
       have hb2 := (b2.eqv 41 (by omega)).1 h41
       have hlt2 : p2 < s.size := (byteAt_nonneg s p2).1 (by omega)
       obtain ⟨f2, rfl⟩ : ∃ f', f2 = f' + 1 := ⟨f2 - 1, by omega⟩
       refine ⟨fun hh => absurd rfl hh, fun _ => ⟨⟨3, false, [], 0, 0, 0⟩ :: ts ++ [⟨4, false, [], 0, 0, 0⟩], f2, p2 + 1, ?_, b2.go hb2 (by omega) (by omega), by omega, AtomOK.group rfl rfl (tokB0 rfl rfl) (tokB0 rfl rfl) hB hts hvb.1 hvb.2, rfl, .inr (.inr (.inl ⟨rfl, _, _, ts, rfl, rfl, rfl, hB, ?_⟩))⟩⟩
       rotate_left
       · show TokC (TokA (F + 2)) ts (Pro.altT L (s.size : Nat) (Pro.deepO L (s.size : Nat) r) (Pro.deepT L (s.size : Nat) r) (L.length + 1 - (Pro.openO L (s.size : Nat) n).n) [] (Pro.openO L (s.size : Nat) n).n)
         rw [han, List.nil_append]; exact htc
       have hi2 : (st0 p2).i = p2 := rfl
       have et2 : Ref.tokenF s (st0 p2) = (⟨4, false, [], 0, 0, 0⟩, st0 (p2 + 1)) := by
         unfold Ref.tokenF; rw [hi2, if_neg (by omega), if_neg (by omega), if_neg (by omega), if_neg (by omega), if_neg (by omega), if_neg (by omega), if_neg (by omega), if_pos hb2, go0]
       rw [Ref.tokensF_tok (st := st0 p2) ⟨hlt2, rfl⟩ (fun hh => by have : Ref.quantB (byteAt s p2) = true := hh.2; rw [hb2] at this; exact absurd this (by decide)) (fun hh => by have : byteAt s p2 = 40 := hh.1; omega), et2]
       simp only []
       have e4 : Ref.turnO 4 (op + 1) = op := by unfold Ref.turnO; rw [if_neg (by decide), if_pos rfl]; omega
       rw [e4, if_neg (by omega)]
       simp only [List.append_assoc, List.cons_append, List.nil_append]
       rfl
     · rw [if_neg h41]
       refine ⟨fun _ => ?_, fun hh => absurd hh (by simp [Pro.bad])⟩
       have hend : ¬ p2 < s.size := by
         rcases (stop_same b2).1 hs1 with k | k | k
         · exact k
         · exact absurd ((b2.eqv 124 (by omega)).2 k) hs2
         · exact absurd ((b2.eqv 41 (by omega)).2 k) h41
       obtain ⟨f2, rfl⟩ : ∃ f', f2 = f' + 1 := ⟨f2 - 1, by have := b2.good.le; omega⟩
       rw [Ref.tokensF_end (st := st0 p2) (fun hh => hend hh.1), if_pos (by omega), fail0]
       refine ⟨l ++ [⟨3, false, [], 0, 0, 0⟩] ++ ts, ?_⟩
       have := b2.good.le
       have := b2.place
       show (_, (3 : Int), ((s.size : Nat) : Int)) = (_, ((3 : Nat) : Int), Pro.placeAt L (s.size : Nat) _)
       rw [b2.place, show p2 = s.size by omega]
       rfl
   · rw [if_pos hk2]
     exact ⟨r1.1, fun hh => absurd hh hk2⟩
 · rw [if_pos hk1]
   have he := hos.2 hk1
   obtain ⟨l', hl⟩ := loop_fault (s := s) (f := f) (l := l ++ [⟨3, false, [], 0, 0, 0⟩]) (op := op + 1) (atom := false) (out_ne hos hk1)
   exact ⟨fun _ => ⟨l', by rw [hl, he.1, he.2]⟩, fun hh => absurd hh hk1⟩
theorem group_deeps (hs4 : s.size ≤ 400) : ∀ r : Nat, r ≤ 10 → GroupGoes s L ((10 : Int) - r) (Pro.deepO L (s.size : Nat) r) (2 * r + 1) (Pro.deepT L (s.size : Nat) r)
 | 0, _ => group_zero
 | r + 1, hr => by
   refine group_succ hs4 (F := 2 * r) (by omega) (by omega) ?_
   rw [show ((10 : Int) - ((r + 1 : Nat) : Int)) + 1 = (10 : Int) - r by omega]
   exact group_deeps hs4 r (by omega)
theorem whole_same (hs4 : s.size ≤ 400) (h : Br s L 0 0) :
   ((Pro.altP L (s.size : Nat) (Pro.deepO L (s.size : Nat) 10) 0).k ≠ 0 → ∃ l', Ref.tokensR s = (l', ((Pro.altP L (s.size : Nat) (Pro.deepO L (s.size : Nat) 10) 0).k : Int), (Pro.altP L (s.size : Nat) (Pro.deepO L (s.size : Nat) 10) 0).p)) ∧
   ((Pro.altP L (s.size : Nat) (Pro.deepO L (s.size : Nat) 10) 0).k = 0 → ((Pro.altP L (s.size : Nat) (Pro.deepO L (s.size : Nat) 10) 0).n = L.length → ∃ ts, Ref.tokensR s = (ts, 0, 0) ∧ Ref.Bal ts ∧ Ref.AddsTo ts (Pro.altP L (s.size : Nat) (Pro.deepO L (s.size : Nat) 10) 0).v ∧ TokC (TokA 22) ts (Pro.altQ L (s.size : Nat) (Pro.deepO L (s.size : Nat) 10) (Pro.deepT L (s.size : Nat) 10) 0).kids) ∧
     ((Pro.altP L (s.size : Nat) (Pro.deepO L (s.size : Nat) 10) 0).n ≠ L.length → ∃ l', Ref.tokensR s = (l', 3, Pro.placeAt L (s.size : Nat) (Pro.altP L (s.size : Nat) (Pro.deepO L (s.size : Nat) 10) 0).n))) := by
 have hD : GroupGoes s L 0 (Pro.deepO L (s.size : Nat) 10) 21 (Pro.deepT L (s.size : Nat) 10) := group_deeps hs4 10 (by omega)
 obtain ⟨r1, r2⟩ := alt_goes hs4 hD (Pro.deepO_in 10) (by omega) (L.length + 1 - 0) (s.size + 1) [] [] 0 0 h (by omega) (by omega) (by simp)
 have e0 : Pro.altP L (s.size : Nat) (Pro.deepO L (s.size : Nat) 10) 0 = Pro.altO L (s.size : Nat) (Pro.deepO L (s.size : Nat) 10) (L.length + 1 - 0) [] 0 := rfl
 rw [← e0] at r1 r2
 have eR : Ref.tokensR s = Ref.tokensF s (s.size + 1) [] 0 false (st0 0) := rfl
 rw [eR]
 refine ⟨r1.1, fun hk => ?_⟩
 obtain ⟨ts, f2, p2, at2, e2, b2, hf2, ha2, ⟨hB, _, hadd⟩, an, han, htc⟩ := r1.2 hk
 obtain ⟨hs1, hs2⟩ := r2 hk
 have hts : Ref.AddsTo ts _ := hadd [] (by exact Ref.AddsTo.nil)
 rw [e2]
 constructor
 · intro hn
   have hend : ¬ p2 < s.size := fun hh => by have := b2.lt.2 hh; omega
   obtain ⟨f2, rfl⟩ : ∃ f', f2 = f' + 1 := ⟨f2 - 1, by have := b2.good.le; omega⟩
   have hkids : (Pro.altQ L (s.size : Nat) (Pro.deepO L (s.size : Nat) 10) (Pro.deepT L (s.size : Nat) 10) 0).kids = an := (han []).trans (List.nil_append _)
   refine ⟨ts, ?_, hB, hts, by rw [hkids]; exact htc⟩
   rw [Ref.tokensF_end (st := st0 p2) (fun hh => hend hh.1), if_neg (by omega)]
   rfl
 · intro hn
   have hlt2 : p2 < s.size := b2.lt.1 (by have := b2.le; omega)
   have hb2 : byteAt s p2 = 41 := by
     rcases (stop_same b2).1 hs1 with k | k | k
     · exact absurd hlt2 k
     · exact absurd ((b2.eqv 124 (by omega)).2 k) hs2
     · exact k
   obtain ⟨f2, rfl⟩ : ∃ f', f2 = f' + 1 := ⟨f2 - 1, by omega⟩
   have hi2 : (st0 p2).i = p2 := rfl
   have et2 : Ref.tokenF s (st0 p2) = (⟨4, false, [], 0, 0, 0⟩, st0 (p2 + 1)) := by
     unfold Ref.tokenF; rw [hi2, if_neg (by omega), if_neg (by omega), if_neg (by omega), if_neg (by omega), if_neg (by omega), if_neg (by omega), if_neg (by omega), if_pos hb2, go0]
   rw [Ref.tokensF_tok (st := st0 p2) ⟨hlt2, rfl⟩ (fun hh => by have : Ref.quantB (byteAt s p2) = true := hh.2; rw [hb2] at this; exact absurd this (by decide)) (fun hh => by have : byteAt s p2 = 40 := hh.1; omega), et2]
   simp only []
   have e4 : Ref.turnO 4 0 = -1 := by decide
   rw [e4, if_pos (by decide), fail0, hi2]
   obtain ⟨l', hl⟩ := loop_fault (s := s) (f := f2) (l := [] ++ ts ++ [⟨4, false, [], 0, 0, 0⟩]) (op := -1) (atom := ((4 : Int) == 1) || ((4 : Int) == 4)) (st := ⟨p2 + 1, 3, p2⟩) (show (3 : Int) ≠ 0 by decide)
   exact ⟨l', by rw [hl, b2.place]⟩
end Eqv
end Go.Proofs.YtnagphodmfejiaaGreatDoor
namespace Go.Proofs.YtnagphodmfejiaaGreatDoor
open Go.RowKit
namespace Eqv
variable {s : ByteArray}
abbrev cont (b : Int) : Prop := 128 ≤ b ∧ b ≤ 191
theorem cont_in {k : Nat} (h : cont (byteAt s k)) : k < s.size := (byteAt_nonneg s k).1 (by unfold cont at h; omega)
theorem tail_iff (k : Nat) (lo hi : Int) (hl : 128 ≤ lo) (_hh : hi ≤ 191) : Pro.tailB s k lo hi = true ↔ (lo ≤ byteAt s k ∧ byteAt s k ≤ hi) := by
 constructor
 · exact fun h => Pro.tailB_ge h
 · intro h
   exact Pro.tailB_yes ((byteAt_nonneg s k).1 (by omega)) (by omega) (by omega)
theorem one_two {p : Nat} (hb : 192 ≤ byteAt s p ∧ byteAt s p < 224) : (cont (byteAt s (p + 1)) → Ref.oneF s p = if Ref.badC 2 ((byteAt s p - 192) * 64 + byteAt s (p + 1) - 128) = true then none else some (2, (byteAt s p - 192) * 64 + byteAt s (p + 1) - 128)) ∧ (¬ cont (byteAt s (p + 1)) → Ref.oneF s p = none) := by
 have h1 : Ref.headK (byteAt s p) = 2 := by unfold Ref.headK Ref.headN; rw [if_neg (by omega), if_pos hb]; rfl
 have h2 : Ref.headC (byteAt s p) = byteAt s p - 192 := by unfold Ref.headC; rw [if_neg (by omega), if_pos hb]
 constructor
 · intro hc
   have := cont_in hc
   have e : Ref.contF s p 1 1 (byteAt s p - 192) = some ((byteAt s p - 192) * 64 + byteAt s (p + 1) - 128) := by
     rw [Ref.contF_good (by unfold cont at hc; omega)]; rfl
   unfold Ref.oneF
   rw [h1, h2, if_neg (by omega)]
   simp only [show 2 - 1 = 1 from rfl, e]
 · intro hc
   by_cases hsz : s.size < p + 2
   · exact Ref.oneF_none1 (by rw [h1]; exact .inr hsz)
   · exact Ref.oneF_none2 (by rw [h1]; omega) (by rw [h1, h2]; exact Ref.contF_bad (by unfold cont at hc; omega))
theorem one_three {p : Nat} (hb : 224 ≤ byteAt s p ∧ byteAt s p < 240) : (cont (byteAt s (p + 1)) ∧ cont (byteAt s (p + 2)) → Ref.oneF s p = if Ref.badC 3 (((byteAt s p - 224) * 64 + byteAt s (p + 1) - 128) * 64 + byteAt s (p + 2) - 128) = true then none else some (3, ((byteAt s p - 224) * 64 + byteAt s (p + 1) - 128) * 64 + byteAt s (p + 2) - 128)) ∧ (¬ (cont (byteAt s (p + 1)) ∧ cont (byteAt s (p + 2))) → Ref.oneF s p = none) := by
 have h1 : Ref.headK (byteAt s p) = 3 := by unfold Ref.headK Ref.headN; rw [if_neg (by omega), if_neg (by omega), if_pos hb]; rfl
 have h2 : Ref.headC (byteAt s p) = byteAt s p - 224 := by unfold Ref.headC; rw [if_neg (by omega), if_neg (by omega), if_pos hb]
 constructor
 · rintro ⟨hc, hd⟩
   have := cont_in hd
   have e : Ref.contF s p 2 1 (byteAt s p - 224) = some (((byteAt s p - 224) * 64 + byteAt s (p + 1) - 128) * 64 + byteAt s (p + 2) - 128) := by
     rw [Ref.contF_good (by unfold cont at hc; omega), Ref.contF_good (by unfold cont at hd; show ¬ (byteAt s (p + 2) < 128 ∨ 191 < byteAt s (p + 2)); omega)]; rfl
   unfold Ref.oneF
   rw [h1, h2, if_neg (by omega)]
   simp only [show 3 - 1 = 2 from rfl, e]
 · intro hc
   by_cases hsz : s.size < p + 3
   · exact Ref.oneF_none1 (by rw [h1]; exact .inr hsz)
   · refine Ref.oneF_none2 (by rw [h1]; omega) ?_
     rw [h1, h2]
     show Ref.contF s p 2 1 _ = none
     by_cases hc1 : cont (byteAt s (p + 1))
     · rw [Ref.contF_good (by unfold cont at hc1; omega)]
       exact Ref.contF_bad (by unfold cont at hc hc1; show byteAt s (p + 2) < 128 ∨ 191 < byteAt s (p + 2); omega)
     · exact Ref.contF_bad (by unfold cont at hc1; omega)
theorem one_four {p : Nat} (hb : 240 ≤ byteAt s p ∧ byteAt s p < 248) : (cont (byteAt s (p + 1)) ∧ cont (byteAt s (p + 2)) ∧ cont (byteAt s (p + 3)) → Ref.oneF s p = if Ref.badC 4 ((((byteAt s p - 240) * 64 + byteAt s (p + 1) - 128) * 64 + byteAt s (p + 2) - 128) * 64 + byteAt s (p + 3) - 128) = true then none else some (4, (((byteAt s p - 240) * 64 + byteAt s (p + 1) - 128) * 64 + byteAt s (p + 2) - 128) * 64 + byteAt s (p + 3) - 128)) ∧ (¬ (cont (byteAt s (p + 1)) ∧ cont (byteAt s (p + 2)) ∧ cont (byteAt s (p + 3))) → Ref.oneF s p = none) := by
 have h1 : Ref.headK (byteAt s p) = 4 := by unfold Ref.headK Ref.headN; rw [if_neg (by omega), if_neg (by omega), if_neg (by omega), if_pos hb]; rfl
 have h2 : Ref.headC (byteAt s p) = byteAt s p - 240 := by unfold Ref.headC; rw [if_neg (by omega), if_neg (by omega), if_neg (by omega), if_pos hb]
 constructor
 · rintro ⟨hc, hd, hx⟩
   have := cont_in hx
   have e : Ref.contF s p 3 1 (byteAt s p - 240) = some ((((byteAt s p - 240) * 64 + byteAt s (p + 1) - 128) * 64 + byteAt s (p + 2) - 128) * 64 + byteAt s (p + 3) - 128) := by
     rw [Ref.contF_good (by unfold cont at hc; omega), Ref.contF_good (by unfold cont at hd; show ¬ (byteAt s (p + 2) < 128 ∨ 191 < byteAt s (p + 2)); omega), Ref.contF_good (by unfold cont at hx; show ¬ (byteAt s (p + 3) < 128 ∨ 191 < byteAt s (p + 3)); omega)]; rfl
   unfold Ref.oneF
   rw [h1, h2, if_neg (by omega)]
   simp only [show 4 - 1 = 3 from rfl, e]
 · intro hc
   by_cases hsz : s.size < p + 4
   · exact Ref.oneF_none1 (by rw [h1]; exact .inr hsz)
   · refine Ref.oneF_none2 (by rw [h1]; omega) ?_
     rw [h1, h2]
     show Ref.contF s p 3 1 _ = none
     by_cases hc1 : cont (byteAt s (p + 1))
     · rw [Ref.contF_good (by unfold cont at hc1; omega)]
       by_cases hc2 : cont (byteAt s (p + 2))
       · rw [Ref.contF_good (by unfold cont at hc2; show ¬ (byteAt s (p + 2) < 128 ∨ 191 < byteAt s (p + 2)); omega)]
         exact Ref.contF_bad (by unfold cont at hc hc1 hc2; show byteAt s (p + 3) < 128 ∨ 191 < byteAt s (p + 3); omega)
       · exact Ref.contF_bad (by unfold cont at hc2; show byteAt s (p + 2) < 128 ∨ 191 < byteAt s (p + 2); omega)
     · exact Ref.contF_bad (by unfold cont at hc1; omega)
def ahead (p : Nat) : Option (Nat × Int) → Option (Nat × Int)
 | none => none
 | some (n, c) => some (p + n, c)
theorem bad_iff (n : Nat) (c : Int) : Ref.badC n c = true ↔ (c < Ref.leastV n ∨ 1114111 < c ∨ (55296 ≤ c ∧ c ≤ 57343)) := by
 unfold Ref.badC; simp [or_assoc]
theorem read_one {p : Nat} (hp : p < s.size) : Pro.readM s p = ahead p (Ref.oneF s p) := by
 have hb0 := (byteAt_nonneg s p).2 hp
 have hb1 := byteAt_hi s p
 have l2 : Ref.leastV ((2 : Nat) : Int) = 128 := rfl
 have l3 : Ref.leastV ((3 : Nat) : Int) = 2048 := rfl
 have l4 : Ref.leastV ((4 : Nat) : Int) = 65536 := rfl
 by_cases c0 : byteAt s p < 128
 · have h1 : Ref.headK (byteAt s p) = 1 := by unfold Ref.headK Ref.headN; rw [if_pos c0]; rfl
   have h2 : Ref.headC (byteAt s p) = byteAt s p := by unfold Ref.headC; rw [if_pos c0]
   have hl : Ref.leastV ((1 : Nat) : Int) = 0 := rfl
   have : Ref.oneF s p = some (1, byteAt s p) := by
     have := Ref.oneF_some (s := s) (p := p) (c := byteAt s p) (by rw [h1]; omega) (by rw [h1, h2]; rfl) (by rw [h1]; cases hx : Ref.badC 1 (byteAt s p) with | false => rfl | true => have := (bad_iff 1 _).1 hx; omega)
     rw [h1] at this; exact this
   rw [this, Pro.readM_whole hp c0]
   have : Pro.leadC (byteAt s p) = byteAt s p := by unfold Pro.leadC; rw [if_pos c0]
   rw [this]; rfl
 · by_cases c1 : byteAt s p < 192
   · have h1 : Ref.headK (byteAt s p) = 0 := by unfold Ref.headK Ref.headN; rw [if_neg c0, if_neg (by omega), if_neg (by omega), if_neg (by omega)]; rfl
     rw [Ref.oneF_none1 (.inl h1), Pro.readM_bad (by unfold Pro.labOf; rw [if_neg c0, if_pos (by omega)])]; rfl
   · by_cases c2 : byteAt s p < 224
     · have ho := one_two (s := s) (p := p) ⟨by omega, c2⟩
       by_cases hc : cont (byteAt s (p + 1))
       · rw [ho.1 hc]
         by_cases c3 : byteAt s p < 194
         · rw [Pro.readM_bad (by unfold Pro.labOf; rw [if_neg c0, if_pos c3]), if_pos ((bad_iff 2 _).2 (by rw [l2]; unfold cont at hc; omega))]; rfl
         · rw [if_neg (fun hh => by have := (bad_iff 2 _).1 hh; rw [l2] at this; unfold cont at hc; omega)]
           rw [Pro.readM_lab hp (l := 0) (by unfold Pro.labOf; rw [if_neg c0, if_neg c3, if_pos c2]) (by omega)]
           show Pro.oneM s (p + 1) _ = _
           unfold Pro.oneM
           rw [if_pos ((tail_iff _ _ _ (by omega) (by omega)).2 hc)]
           have : Pro.leadC (byteAt s p) = byteAt s p - 192 := by unfold Pro.leadC; rw [if_neg c0, if_pos c2]; omega
           rw [this]; rfl
       · rw [ho.2 hc]
         by_cases c3 : byteAt s p < 194
         · rw [Pro.readM_bad (by unfold Pro.labOf; rw [if_neg c0, if_pos c3])]; rfl
         · rw [Pro.readM_lab hp (l := 0) (by unfold Pro.labOf; rw [if_neg c0, if_neg c3, if_pos c2]) (by omega)]
           show Pro.oneM s (p + 1) _ = _
           unfold Pro.oneM
           rw [if_neg (fun hh => hc ((tail_iff _ _ _ (by omega) (by omega)).1 hh))]; rfl
     · by_cases c3 : byteAt s p < 240
       · have ho := one_three (s := s) (p := p) ⟨by omega, c3⟩
         have hl : Pro.leadC (byteAt s p) = byteAt s p - 224 := by unfold Pro.leadC; rw [if_neg c0, if_neg c2, if_pos c3]; omega
         have key : Pro.readM s p = (if (if byteAt s p = 224 then 160 else 128) ≤ byteAt s (p + 1) ∧ byteAt s (p + 1) ≤ (if byteAt s p = 237 then 159 else 191) then (if cont (byteAt s (p + 2)) then some (p + 3, ((byteAt s p - 224) * 64 + byteAt s (p + 1) - 128) * 64 + byteAt s (p + 2) - 128) else none) else none) := by
           have gen : ∀ lo hi : Int, 128 ≤ lo → hi ≤ 191 → (if Pro.tailB s (p + 1) lo hi = true then Pro.oneM s (p + 1 + 1) (Pro.leadC (byteAt s p) * 64 + byteAt s (p + 1) - 128) else none) = (if lo ≤ byteAt s (p + 1) ∧ byteAt s (p + 1) ≤ hi then (if cont (byteAt s (p + 2)) then some (p + 3, ((byteAt s p - 224) * 64 + byteAt s (p + 1) - 128) * 64 + byteAt s (p + 2) - 128) else none) else none) := by
             intro lo hi h1 h2
             by_cases ht : lo ≤ byteAt s (p + 1) ∧ byteAt s (p + 1) ≤ hi
             · rw [if_pos ((tail_iff _ _ _ h1 h2).2 ht), if_pos ht, hl]
               unfold Pro.oneM
               by_cases hc : cont (byteAt s (p + 2))
               · rw [if_pos ((tail_iff (p + 2) _ _ (by omega) (by omega)).2 hc), if_pos hc]
               · rw [if_neg (fun hh => hc ((tail_iff (p + 2) _ _ (by omega) (by omega)).1 hh)), if_neg hc]
             · rw [if_neg (fun hh => ht ((tail_iff _ _ _ h1 h2).1 hh)), if_neg ht]
           by_cases k1 : byteAt s p = 224
           · rw [Pro.readM_lab hp (l := 1) (by unfold Pro.labOf; rw [if_neg c0, if_neg (by omega), if_neg c2, if_pos k1]) (by omega), if_pos k1, if_neg (show ¬ byteAt s p = 237 by omega)]
             exact gen 160 191 (by omega) (by omega)
           · by_cases k2 : byteAt s p = 237
             · rw [Pro.readM_lab hp (l := 2) (by unfold Pro.labOf; rw [if_neg c0, if_neg (by omega), if_neg c2, if_neg k1, if_pos k2]) (by omega), if_neg k1, if_pos k2]
               exact gen 128 159 (by omega) (by omega)
             · rw [Pro.readM_lab hp (l := 3) (by unfold Pro.labOf; rw [if_neg c0, if_neg (by omega), if_neg c2, if_neg k1, if_neg k2, if_pos c3]) (by omega), if_neg k1, if_neg k2]
               exact gen 128 191 (by omega) (by omega)
         rw [key]
         by_cases hc : cont (byteAt s (p + 1)) ∧ cont (byteAt s (p + 2))
         · rw [ho.1 hc]
           obtain ⟨hc1, hc2⟩ := hc
           rw [if_pos hc2]
           by_cases hb : Ref.badC 3 (((byteAt s p - 224) * 64 + byteAt s (p + 1) - 128) * 64 + byteAt s (p + 2) - 128) = true
           · rw [if_pos hb, if_neg (fun hh => by have := (bad_iff 3 _).1 hb; rw [l3] at this; unfold cont at hc1 hc2; split at hh <;> split at hh <;> omega)]; rfl
           · have hb' : ¬ (((byteAt s p - 224) * 64 + byteAt s (p + 1) - 128) * 64 + byteAt s (p + 2) - 128 < 2048 ∨ 1114111 < ((byteAt s p - 224) * 64 + byteAt s (p + 1) - 128) * 64 + byteAt s (p + 2) - 128 ∨ (55296 ≤ ((byteAt s p - 224) * 64 + byteAt s (p + 1) - 128) * 64 + byteAt s (p + 2) - 128 ∧ ((byteAt s p - 224) * 64 + byteAt s (p + 1) - 128) * 64 + byteAt s (p + 2) - 128 ≤ 57343)) := fun hh => hb ((bad_iff 3 _).2 (by rw [l3]; exact hh))
             rw [if_neg hb, if_pos (by unfold cont at hc1 hc2; constructor <;> split <;> omega)]; rfl
         · rw [ho.2 hc]
           by_cases ht : (if byteAt s p = 224 then (160 : Int) else 128) ≤ byteAt s (p + 1) ∧ byteAt s (p + 1) ≤ (if byteAt s p = 237 then (159 : Int) else 191)
           · have hc1 : cont (byteAt s (p + 1)) := by unfold cont; obtain ⟨a, b⟩ := ht; split at a <;> split at b <;> omega
             rw [if_pos ht, if_neg (fun hh => hc ⟨hc1, hh⟩)]; rfl
           · rw [if_neg ht]; rfl
       · by_cases c4 : byteAt s p < 248
         · have ho := one_four (s := s) (p := p) ⟨by omega, c4⟩
           have hl : Pro.leadC (byteAt s p) = byteAt s p - 240 := by unfold Pro.leadC; rw [if_neg c0, if_neg c2, if_neg c3]; omega
           by_cases c5 : 245 ≤ byteAt s p
           · rw [Pro.readM_bad (by unfold Pro.labOf; rw [if_neg c0, if_neg (by omega), if_neg c2, if_neg (by omega), if_neg (by omega), if_neg c3, if_neg (by omega), if_neg (by omega), if_neg (by omega)])]
             by_cases hc : cont (byteAt s (p + 1)) ∧ cont (byteAt s (p + 2)) ∧ cont (byteAt s (p + 3))
             · rw [ho.1 hc, if_pos ((bad_iff 4 _).2 (by unfold cont at hc; omega))]; rfl
             · rw [ho.2 hc]; rfl
           · have key : Pro.readM s p = (if (if byteAt s p = 240 then 144 else 128) ≤ byteAt s (p + 1) ∧ byteAt s (p + 1) ≤ (if byteAt s p = 244 then 143 else 191) then (if cont (byteAt s (p + 2)) then (if cont (byteAt s (p + 3)) then some (p + 4, (((byteAt s p - 240) * 64 + byteAt s (p + 1) - 128) * 64 + byteAt s (p + 2) - 128) * 64 + byteAt s (p + 3) - 128) else none) else none) else none) := by
               have gen : ∀ lo hi : Int, 128 ≤ lo → hi ≤ 191 → (if Pro.tailB s (p + 1) lo hi = true then Pro.twoM s (p + 1 + 1) (Pro.leadC (byteAt s p) * 64 + byteAt s (p + 1) - 128) else none) = (if lo ≤ byteAt s (p + 1) ∧ byteAt s (p + 1) ≤ hi then (if cont (byteAt s (p + 2)) then (if cont (byteAt s (p + 3)) then some (p + 4, (((byteAt s p - 240) * 64 + byteAt s (p + 1) - 128) * 64 + byteAt s (p + 2) - 128) * 64 + byteAt s (p + 3) - 128) else none) else none) else none) := by
                 intro lo hi h1 h2
                 by_cases ht : lo ≤ byteAt s (p + 1) ∧ byteAt s (p + 1) ≤ hi
                 · rw [if_pos ((tail_iff _ _ _ h1 h2).2 ht), if_pos ht, hl]
                   unfold Pro.twoM Pro.oneM
                   by_cases hc : cont (byteAt s (p + 2))
                   · rw [if_pos ((tail_iff (p + 2) _ _ (by omega) (by omega)).2 hc), if_pos hc]
                     by_cases hd : cont (byteAt s (p + 3))
                     · rw [if_pos ((tail_iff (p + 3) _ _ (by omega) (by omega)).2 hd), if_pos hd]
                     · rw [if_neg (fun hh => hd ((tail_iff (p + 3) _ _ (by omega) (by omega)).1 hh)), if_neg hd]
                   · rw [if_neg (fun hh => hc ((tail_iff (p + 2) _ _ (by omega) (by omega)).1 hh)), if_neg hc]
                 · rw [if_neg (fun hh => ht ((tail_iff _ _ _ h1 h2).1 hh)), if_neg ht]
               by_cases k1 : byteAt s p = 240
               · rw [Pro.readM_lab hp (l := 4) (by unfold Pro.labOf; rw [if_neg c0, if_neg (by omega), if_neg c2, if_neg (by omega), if_neg (by omega), if_neg c3, if_pos k1]) (by omega), if_pos k1, if_neg (show ¬ byteAt s p = 244 by omega)]
                 exact gen 144 191 (by omega) (by omega)
               · by_cases k2 : byteAt s p = 244
                 · rw [Pro.readM_lab hp (l := 6) (by unfold Pro.labOf; rw [if_neg c0, if_neg (by omega), if_neg c2, if_neg (by omega), if_neg (by omega), if_neg c3, if_neg k1, if_neg (by omega), if_pos k2]) (by omega), if_neg k1, if_pos k2]
                   exact gen 128 143 (by omega) (by omega)
                 · rw [Pro.readM_lab hp (l := 5) (by unfold Pro.labOf; rw [if_neg c0, if_neg (by omega), if_neg c2, if_neg (by omega), if_neg (by omega), if_neg c3, if_neg k1, if_pos (by omega)]) (by omega), if_neg k1, if_neg k2]
                   exact gen 128 191 (by omega) (by omega)
             rw [key]
             by_cases hc : cont (byteAt s (p + 1)) ∧ cont (byteAt s (p + 2)) ∧ cont (byteAt s (p + 3))
             · rw [ho.1 hc]
               obtain ⟨hc1, hc2, hc3⟩ := hc
               rw [if_pos hc2, if_pos hc3]
               by_cases hb : Ref.badC 4 ((((byteAt s p - 240) * 64 + byteAt s (p + 1) - 128) * 64 + byteAt s (p + 2) - 128) * 64 + byteAt s (p + 3) - 128) = true
               · rw [if_pos hb, if_neg (fun hh => by have := (bad_iff 4 _).1 hb; rw [l4] at this; unfold cont at hc1 hc2 hc3; split at hh <;> split at hh <;> omega)]; rfl
               · have hb' : ¬ ((((byteAt s p - 240) * 64 + byteAt s (p + 1) - 128) * 64 + byteAt s (p + 2) - 128) * 64 + byteAt s (p + 3) - 128 < 65536 ∨ 1114111 < (((byteAt s p - 240) * 64 + byteAt s (p + 1) - 128) * 64 + byteAt s (p + 2) - 128) * 64 + byteAt s (p + 3) - 128 ∨ (55296 ≤ (((byteAt s p - 240) * 64 + byteAt s (p + 1) - 128) * 64 + byteAt s (p + 2) - 128) * 64 + byteAt s (p + 3) - 128 ∧ (((byteAt s p - 240) * 64 + byteAt s (p + 1) - 128) * 64 + byteAt s (p + 2) - 128) * 64 + byteAt s (p + 3) - 128 ≤ 57343)) := fun hh => hb ((bad_iff 4 _).2 (by rw [l4]; exact hh))
                 rw [if_neg hb, if_pos (by unfold cont at hc1 hc2 hc3; constructor <;> split <;> omega)]; rfl
             · rw [ho.2 hc]
               by_cases ht : (if byteAt s p = 240 then (144 : Int) else 128) ≤ byteAt s (p + 1) ∧ byteAt s (p + 1) ≤ (if byteAt s p = 244 then (143 : Int) else 191)
               · have hc1 : cont (byteAt s (p + 1)) := by unfold cont; obtain ⟨a, b⟩ := ht; split at a <;> split at b <;> omega
                 rw [if_pos ht]
                 by_cases hc2 : cont (byteAt s (p + 2))
                 · rw [if_pos hc2, if_neg (fun hh => hc ⟨hc1, hc2, hh⟩)]; rfl
                 · rw [if_neg hc2]; rfl
               · rw [if_neg ht]; rfl
         · have h1 : Ref.headK (byteAt s p) = 0 := by unfold Ref.headK Ref.headN; rw [if_neg c0, if_neg (by omega), if_neg (by omega), if_neg (by omega)]; rfl
           rw [Ref.oneF_none1 (.inl h1), Pro.readM_bad (by unfold Pro.labOf; rw [if_neg c0, if_neg (by omega), if_neg c2, if_neg (by omega), if_neg (by omega), if_neg c3, if_neg (by omega), if_neg (by omega), if_neg (by omega)])]; rfl
end Eqv
end Go.Proofs.YtnagphodmfejiaaGreatDoor
namespace Go.Proofs.YtnagphodmfejiaaGreatDoor
open Go.RowKit
namespace Ref
theorem scan_closing (l : List Tok) : ∀ (f k : Nat) (op : Int) (m : Nat), scan (l.drop k) op k = some m → l.length < k + f → closingF l f k op = (m : Int) ∧ m < l.length ∧ k ≤ m
 | 0, k, op, m, h, hf => by rw [List.drop_of_length_le (by omega)] at h; cases h
 | f + 1, k, op, m, h, hf => by
   by_cases hk : k < l.length
   · have hd : l.drop k = l[k] :: l.drop (k + 1) := List.drop_eq_getElem_cons hk
     have hka : kindAt l k = l[k].kind := by unfold kindAt; rw [List.getElem?_eq_getElem hk]
     rw [hd, scan_cons] at h
     simp only [closingF]
     rw [if_pos hk, hka]
     by_cases hz : turnO l[k].kind op = 0
     · rw [if_pos hz] at h ⊢
       cases h
       exact ⟨rfl, hk, Nat.le_refl _⟩
     · rw [if_neg hz] at h ⊢
       have := scan_closing l f (k + 1) _ m h (by omega)
       exact ⟨this.1, this.2.1, by omega⟩
   · rw [List.drop_of_length_le (by omega)] at h; cases h
theorem scan_gen : ∀ (r : List Tok) (op : Int) (a b j : Nat), scan r op a = some j → scan r op (a + b) = some (j + b)
 | [], op, a, b, j, h => by cases h
 | t :: r, op, a, b, j, h => by
   rw [scan_cons] at h ⊢
   by_cases hz : turnO t.kind op = 0
   · rw [if_pos hz] at h ⊢; cases h; rfl
   · rw [if_neg hz] at h ⊢
     rw [show a + b + 1 = a + 1 + b by omega]
     exact scan_gen r _ (a + 1) b j h
theorem scan_shift (r : List Tok) (op : Int) (k j : Nat) (h : scan r op 0 = some j) : scan r op k = some (j + k) := by
 have := scan_gen r op 0 k j h
 rw [Nat.zero_add] at this
 exact this
theorem atomEnd_group {l : List Tok} {i j : Nat} (hi : i < l.length) (h3 : kindAt l i = 3) (h : scan (l.drop (i + 1)) 1 0 = some j) : atomEnd l i = ((i + j + 2 : Nat) : Int) ∧ i + j + 2 ≤ l.length := by
 have hs := scan_shift _ _ (i + 1) j h
 have hc := scan_closing l (l.length - i) (i + 1) 1 _ hs (by omega)
 have e : closingR l i = ((j + (i + 1) : Nat) : Int) := by
   unfold closingR
   rw [show l.length + 1 - i = (l.length - i) + 1 by omega]
   simp only [closingF]
   have : turnO (kindAt l i) 0 = 1 := by rw [h3]; rfl
   rw [if_pos hi, this, if_neg (by decide)]
   exact hc.1
 unfold atomEnd
 rw [if_pos h3, e]
 omega
theorem qsize_nn {k : Int} {t : Tok} (hk : 0 ≤ k) (h : TokB t) : 0 ≤ qsize k t.mn t.mx := by
 unfold TokB at h
 unfold qsize
 split
 · have : 0 ≤ (if t.mn = 0 then (1 : Int) else t.mn) * k := Int.mul_nonneg (by split <;> omega) hk
   omega
 · have h1 : 0 ≤ t.mn * k := Int.mul_nonneg h.1 hk
   have h2 : 0 ≤ (t.mx - t.mn) * (k + 1) := Int.mul_nonneg (by omega) (by omega)
   omega
theorem behind_mem {rest : List Tok} {k : Int} {t : Tok} (h : t ∈ (behindAtom rest k).2) : t ∈ rest := by
 unfold behindAtom at h
 cases rest with
 | nil => exact h
 | cons q r =>
   simp only [] at h
   split at h
   · exact List.mem_cons_of_mem _ h
   · exact h
theorem behind_len (rest : List Tok) (k : Int) : (behindAtom rest k).2.length ≤ rest.length := by
 unfold behindAtom
 cases rest with
 | nil => exact Nat.le_refl _
 | cons q r => simp only []; split <;> simp
theorem behind_nn {rest : List Tok} {k : Int} (hk : 0 ≤ k) (h : ∀ t ∈ rest, TokB t) : 0 ≤ (behindAtom rest k).1 := by
 unfold behindAtom
 cases rest with
 | nil => exact hk
 | cons q r =>
   simp only []
   split
   · exact qsize_nn hk (h q (List.mem_cons_self ..))
   · exact hk
theorem sizeS_bd : ∀ (f : Nat) (l : List Tok) (n z b : Int), sizeS f l n = some z → (∀ t ∈ l, TokB t) → 0 ≤ n → 0 ≤ b → n ≤ 1000000 + b → 0 ≤ z ∧ z ≤ 1000000 + b + l.length := by
 intro f
 induction f with
 | zero => intro l n z b h; cases h
 | succ f ih =>
   intro l n z b h hb hn0 hb0 hn1
   cases l with
   | nil => simp [sizeS] at h; subst h; simp; omega
   | cons t r =>
     have hr : ∀ u ∈ r, TokB u := fun u hu => hb u (List.mem_cons_of_mem _ hu)
     unfold sizeS at h
     simp only [List.length_cons]
     split at h
     · have := ih r (n + 1) z (b + 1) h hr (by omega) (by omega) (by omega)
       omega
     · split at h
       · split at h
         · cases h
         · rename_i j hj
           split at h
           · cases h
           · rename_i k hk
             have hk0 := (ih (r.take j) 0 k 0 hk (fun u hu => hr u (List.mem_of_mem_take hu)) (by omega) (by omega) (by omega)).1
             have hd : ∀ u ∈ r.drop (j + 1), TokB u := fun u hu => hr u (List.mem_of_mem_drop hu)
             have hq := behind_nn hk0 hd
             have := ih _ _ z b h (fun u hu => hd u (behind_mem hu)) (by omega) hb0 (by omega)
             have hl := behind_len (r.drop (j + 1)) k
             rw [List.length_drop] at hl
             omega
       · have hq := behind_nn (k := 1) (by omega) hr
         have := ih _ _ z b h (fun u hu => hr u (behind_mem hu)) (by omega) hb0 (by omega)
         have hl := behind_len r 1
         omega
end Ref
theorem TokRow.sub {w : World} {g off : Nat} {l : List Tok} (h : TokRow w g off l) (i m : Nat) : TokRow w g (off + i * 6) ((l.drop i).take m) := by
 intro j t hj
 rw [List.getElem?_take] at hj
 split at hj
 · rw [List.getElem?_drop] at hj
   obtain ⟨pa, pn, pc, h0, h1, h2, h3, h4, h5⟩ := h (i + j) t hj
   have e : off + i * 6 + j * 6 = off + (i + j) * 6 := by omega
   rw [e]
   exact ⟨pa, pn, pc, h0, h1, h2, h3, h4, h5⟩
 · cases hj
set_option maxHeartbeats 800000 in
theorem inner_any (g off cap : Nat) (l : List Tok) (w : World) (h : TokRow w g off l) (hl : l.length ≤ 1000) (hc : l.length ≤ cap) (h2 : 2 ≤ l.length) (h3 : Ref.kindAt l 0 = 3) :
   Calls Tryz.prog 74 #[.slice (some ⟨g, off, none⟩) l.length cap] w fun x w' => x = .returned (.slice (some ⟨g, off + 6, none⟩) (l.length - 2) (cap - 1)) ∧ w' = w := by
 have hk : w.cell? ⟨g, off, none⟩ = some (.int .i64 (Ref.kindAt l 0)) := by have := h.kind 0 (by omega); rw [Nat.zero_mul, Nat.add_zero] at this; exact this
 have h3' : (Ref.kindAt l 0 == 3) = true := by simp [h3]
 have hcap : ¬ cap = 1 := by omega
 clear h3 h
 go_enter Tryz.func74, Tryz.ntmps74
 go_wp2_with fail
 go_ret
 exact ⟨by rw [show l.length - 2 = l.length - 1 - 1 by omega]; rfl, rfl⟩
end Go.Proofs.YtnagphodmfejiaaGreatDoor
