/- The program's groups, and so its patterns, as trees: by how deep they may still go. The sizes that the reader tells are the sizes of its trees: plain. The program's sizes of parts. -/
import Derived.Test.YtnagphodmfejiaaGreatDoorKTrBTrF
import Derived.Test.YtnagphodmfejiaaGreatDoorKSemETrI
import Derived.Test.YtnagphodmfejiaaGreatDoorKParATrA
import Derived.LoopN
namespace Go.Proofs.YtnagphodmfejiaaGreatDoor
open Go.RowKit
open Sm (Tree)
theorem RdAt.setDT {w : World} {b : Nat} {L : List (Int × Int)} {n : Nat} {len dp : Int} (h : RdAt w b L n len dp) (j : Int) : RdAt (w.setCell ⟨b, 3, none⟩ (.int .i64 j)) b L n len j := by
 obtain ⟨c0, c1, c2, c3, f1, f3⟩ := h
 refine ⟨?_, (World.cell?_setCell_other _ _ _ _ (by simp)).trans c1, (World.cell?_setCell_other _ _ _ _ (by simp)).trans c2, World.cell?_setCell_same _ _ _ c3, (frozen_setCell _ _ _ _).trans f1, (frozen_setCell _ _ _ _).trans f3⟩
 rcases c0 with ⟨g, cap, c0, hcap, hne, hrow⟩ | ⟨rfl, c0⟩
 · exact .inl ⟨g, cap, (World.cell?_setCell_other _ _ _ _ (by simp)).trans c0, hcap, hne, hrow.keep ((Only.refl (Mine b) w).mine 3 _) (by unfold Mine; omega)⟩
 · exact .inr ⟨rfl, (World.cell?_setCell_other _ _ _ _ (by simp)).trans c0⟩
theorem part_close {b F : Nat} {w w1 w2 w3 : World} {v : Value} {z : Tree} (hlt : b < w.heap.size) (h1 : Only (Mine b) w w1) (hs : PartAt F w2 (fun g => w1.heap.size ≤ g) v z) (h3 : Only (Mine b) w2 w3) : PartAt F w3 (fun g => w.heap.size ≤ g) v z :=
 PartAt.keep h3 (A := fun g => w.heap.size ≤ g) (fun g hg e => by unfold Mine at e; subst e; exact absurd hlt (Nat.not_lt.2 hg)) F v z (PartAt.mono (fun g _ hg => Nat.le_trans h1.size hg) F v z hs)
set_option maxHeartbeats 4000000 in
set_option maxRecDepth 1000000 in
theorem group_deepT (b : Nat) (L : List (Int × Int)) (len : Int) (a : Nat → Addr) (hb : 10 ≤ b) (hL : L.length ≤ 400) : GroupOKT b L len 10 a (Pro.deepO L len 0) (Pro.deepT L len 0) := by
 intro n w h hS hn
 have T := hide (Trk.start h hS hb)
 have c3 := h.c3
 have hs7 := hS.s7
 clear h hS
 go_enter Tryz.func216, Tryz.ntmps216
 go_wp2_with fail
 go_region_with (first
   | (go_at_call 103; refine (place_t (n := n) (by exact (unhide T).drewN _) hL (by omega)).mono ?_; rintro e w1 ⟨rfl, q, rfl⟩)
   | (go_at_call 56; refine (new_t (n := n) _ 7 _ _ rfl (by exact (unhide T).drewN _)).mono ?_; rintro e w1 ⟨v, rfl, hv, tq⟩))
 all_goals go_wp2_with fail
 all_goals
   go_ret2
   exact GivesT.bad rfl (show (7 : Nat) ≠ 0 by decide) (Own.to tq.on) tq.rd hv
set_option maxHeartbeats 4000000 in
set_option maxRecDepth 1000000 in
theorem group_stepT (b : Nat) (L : List (Int × Int)) (len dp : Int) (a : Nat → Addr) (r : Nat) (hb : 10 ≤ b) (hL : L.length ≤ 400) (h0 : 0 ≤ dp) (h1 : dp < 10)
   (hA : ∀ (n : Nat) (w : World), RdAt w b L n len (dp + 1) → Sents w a → n ≤ L.length → Calls Tryz.prog 53 #[.pointer (some ⟨b, 0, none⟩)] w (GivesT b L len (dp + 1) a w (Pro.altP L len (Pro.deepO L len r) n) (Pro.altQ L len (Pro.deepO L len r) (Pro.deepT L len r) n))) : GroupOKT b L len dp a (Pro.deepO L len (r + 1)) (Pro.deepT L len (r + 1)) := by
 intro n w h hS hn
 have hlt := h.lt
 have HR := hide h
 have HS := hide hS
 have HA := hide hA
 have c3 := h.c3
 have hd : (dp == 10) = false := by simp; omega
 clear h hS hA
 have ho := Pro.openO_in (L := L) (len := len) n hn
 have ha := Pro.altP_in (len := len) (Pro.deepO_in (L := L) (len := len) r) (Pro.openO L len n).n ho.2
 by_cases hk1 : (Pro.openO L len n).k = 0
 · by_cases hk2 : (Pro.altP L len (Pro.deepO L len r) (Pro.openO L len n).n).k = 0
   · by_cases hc : Pro.letAt L (Pro.altP L len (Pro.deepO L len r) (Pro.openO L len n).n).n = 41
     · have m1 : Pro.matchB L (Pro.altP L len (Pro.deepO L len r) (Pro.openO L len n).n).n { data := #[41] } = true := by rw [Pro.matchB_one L _ 41 41 rfl]; simp [hc]
       have HO : Hid (Pro.deepO L len (r + 1) n = Pro.good (Pro.altP L len (Pro.deepO L len r) (Pro.openO L len n).n).v ((Pro.altP L len (Pro.deepO L len r) (Pro.openO L len n).n).n + 1)) := by simp only [Pro.deepO]; unfold Pro.groupO; rw [if_neg (by simp [hk1]), if_neg (by simp [hk2]), if_pos hc]; rfl
       clear hc
       go_enter Tryz.func216, Tryz.ntmps216
       go_wp2_with (first
         | (go_at_call 242; refine (opening_any b L n len dp a _ (unhide HR) (unhide HS) hb hL hn).mono ?_; rintro e w1 ⟨tq, hT⟩; obtain ⟨rfl, _⟩ := adds_yes hT hk1; clear hT; have T1 := hide tq; have c31 := tq.rd.c3; have f31 := tq.rd.f3; clear tq)
         | (go_at_call 53; refine (unhide HA (Pro.openO L len n).n _ ((unhide T1).rd.setDT _) ((unhide T1).se.mine ((Only.refl _ _).mine _ _) hb) ho.2).mono ?_; intro e w2 hg; obtain ⟨T2, y2, F2, rfl, hs2, hO2, hR2⟩ := givesT_yes hg hk2; have Hs2 := hide hs2; have HO2 := hide hO2; have HR2 := hide hR2; have c32 := hR2.c3; have f32 := hR2.f3; clear hg hs2 hO2 hR2)
         | (go_at_call 102; refine (take_yes b L (Pro.altP L len (Pro.deepO L len r) (Pro.openO L len n).n).n len dp _ _ ((unhide HR2).setDT _) hL (by omega) (by decide) (by assumption)).mono ?_; rintro e w3 ⟨rfl, hR3, hO3⟩; have HR3 := hide hR3; have HO3 := hide hO3; clear hR3 hO3))
       go_ret2
       have hA1 : Only (Mine b) w (w1.setCell ⟨b, 3, none⟩ (.int .i64 (dp + 1))) := (Own.to (unhide T1).on).mine _ _
       have hA2 : Only (Mine b) w2 w3 := ((Only.refl (Mine b) w2).mine 3 _).trans (unhide HO3)
       exact GivesT.good (unhide HO) ((hA1.trans (unhide HO2)).trans hA2) (unhide HR3) (part_close hlt hA1 (unhide Hs2) hA2)
     · have m1 : Pro.matchB L (Pro.altP L len (Pro.deepO L len r) (Pro.openO L len n).n).n { data := #[41] } = false := by rw [Pro.matchB_one L _ 41 41 rfl]; simp [hc]
       have HO : Hid (Pro.deepO L len (r + 1) n = Pro.bad 3 (Pro.placeAt L len (Pro.altP L len (Pro.deepO L len r) (Pro.openO L len n).n).n) (Pro.altP L len (Pro.deepO L len r) (Pro.openO L len n).n).n) := by simp only [Pro.deepO]; unfold Pro.groupO; rw [if_neg (by simp [hk1]), if_neg (by simp [hk2]), if_neg hc]; rfl
       clear hc
       go_enter Tryz.func216, Tryz.ntmps216
       go_wp2_with (first
         | (go_at_call 242; refine (opening_any b L n len dp a _ (unhide HR) (unhide HS) hb hL hn).mono ?_; rintro e w1 ⟨tq, hT⟩; obtain ⟨rfl, _⟩ := adds_yes hT hk1; clear hT; have T1 := hide tq; have c31 := tq.rd.c3; have f31 := tq.rd.f3; clear tq)
         | (go_at_call 53; refine (unhide HA (Pro.openO L len n).n _ ((unhide T1).rd.setDT _) ((unhide T1).se.mine ((Only.refl _ _).mine _ _) hb) ho.2).mono ?_; intro e w2 hg; obtain ⟨T2, y2, F2, rfl, hs2, hO2, hR2⟩ := givesT_yes hg hk2; have Hs2 := hide hs2; have HO2 := hide hO2; have HR2 := hide hR2; have c32 := hR2.c3; have f32 := hR2.f3; clear hg hs2 hO2 hR2); (have T := hide (Trk.start ((unhide HR2).setDT dp) (((unhide HS).mine (((Own.to (unhide T1).on).mine 3 _).trans (unhide HO2)) hb).mine ((Only.refl _ _).mine 3 _) hb) hb))
         | (go_at_call 102; refine (takeno_t (n := (Pro.altP L len (Pro.deepO L len r) (Pro.openO L len n).n).n) _ (by exact unhide T) hL (by omega) (by decide) (by assumption)).mono ?_; rintro e wq ⟨rfl, qq, rfl⟩)
         | (go_at_call 55; refine (wrong_t (n := (Pro.altP L len (Pro.deepO L len r) (Pro.openO L len n).n).n) (by exact (unhide T).drewN _) hL (by omega)).mono ?_; rintro e wq ⟨v, rfl, hv, tq⟩; have T := hide tq; have c1 := tq.c1; have f1 := tq.f1))
       go_ret2
       have hA1 : Only (Mine b) w (w1.setCell ⟨b, 3, none⟩ (.int .i64 (dp + 1))) := (Own.to (unhide T1).on).mine _ _
       have hA2 := (hA1.trans (unhide HO2)).mine 3 (.int .i64 dp)
       exact GivesT.bad (unhide HO) (by decide) (hA2.trans (Own.to (unhide T).on)) (unhide T).rd (hv.base hA2.size)
   · have HO : Hid (Pro.deepO L len (r + 1) n = (Pro.altP L len (Pro.deepO L len r) (Pro.openO L len n).n)) := by simp only [Pro.deepO]; unfold Pro.groupO; rw [if_neg (by simp [hk1]), if_pos hk2]; rfl
     go_enter Tryz.func216, Tryz.ntmps216
     go_wp2_with (first
       | (go_at_call 242; refine (opening_any b L n len dp a _ (unhide HR) (unhide HS) hb hL hn).mono ?_; rintro e w1 ⟨tq, hT⟩; obtain ⟨rfl, _⟩ := adds_yes hT hk1; clear hT; have T1 := hide tq; have c31 := tq.rd.c3; have f31 := tq.rd.f3; clear tq)
       | (go_at_call 53; refine (unhide HA (Pro.openO L len n).n _ ((unhide T1).rd.setDT _) ((unhide T1).se.mine ((Only.refl _ _).mine _ _) hb) ho.2).mono ?_; intro e w2 hg; obtain ⟨g2, rfl, hv2, hO2, hR2⟩ := givesT_no hg hk2; have Hv2 := hide hv2; have HO2 := hide hO2; have HR2 := hide hR2; have c32 := hR2.c3; have f32 := hR2.f3; clear hg hv2 hO2 hR2))
     go_ret2
     have hA1 : Only (Mine b) w (w1.setCell ⟨b, 3, none⟩ (.int .i64 (dp + 1))) := (Own.to (unhide T1).on).mine _ _
     rw [unhide HO]
     exact ⟨(hA1.trans (unhide HO2)).mine 3 _, (unhide HR2).setDT dp, .inr ⟨hk2, _, rfl, ((unhide Hv2).base hA1.size).keep ((Only.refl (Mine b) _).mine 3 _) (fun g hg e => by unfold Mine at e; omega)⟩⟩
 · have HO : Hid (Pro.deepO L len (r + 1) n = Pro.openO L len n) := by simp only [Pro.deepO]; unfold Pro.groupO; rw [if_pos hk1]; rfl
   go_enter Tryz.func216, Tryz.ntmps216
   go_wp2_with (go_at_call 242; refine (opening_any b L n len dp a _ (unhide HR) (unhide HS) hb hL hn).mono ?_; rintro e w1 ⟨tq, hT⟩; obtain ⟨v, rfl, hv⟩ := adds_no hT hk1; clear hT; obtain ⟨gv, hgv⟩ := hv.form; subst hgv; have T1 := hide tq; clear tq)
   go_ret2
   rw [unhide HO]
   exact ⟨Own.to (unhide T1).on, (unhide T1).rd, .inr ⟨hk1, _, rfl, hv⟩⟩
theorem group_allT (b : Nat) (L : List (Int × Int)) (len : Int) (a : Nat → Addr) (hb : 10 ≤ b) (hL : L.length ≤ 400) (hF : Pro.Fit L) : ∀ r : Nat, r ≤ 10 → GroupOKT b L len ((10 : Int) - r) a (Pro.deepO L len r) (Pro.deepT L len r)
 | 0, _ => group_deepT b L len a hb hL
 | r + 1, hr => by
   have hG := group_allT b L len a hb hL hF r (by omega)
   refine group_stepT b L len _ a r hb hL (by omega) (by omega) ?_
   rw [show ((10 : Int) - ((r + 1 : Nat) : Int)) + 1 = (10 : Int) - r by omega]
   intro n w h hS hn
   exact alternativesT_any b L n len _ a (Pro.deepO L len r) (Pro.deepT L len r) w h hS hb hL hn hF hG (Pro.deepO_in r)
theorem alternatives_topT (b : Nat) (L : List (Int × Int)) (n : Nat) (len : Int) (a : Nat → Addr) (w : World) (h : RdAt w b L n len 0) (hS : Sents w a) (hb : 10 ≤ b) (hL : L.length ≤ 400) (hn : n ≤ L.length) (hF : Pro.Fit L) :
   Calls Tryz.prog 53 #[.pointer (some ⟨b, 0, none⟩)] w (GivesT b L len 0 a w (Pro.altP L len (Pro.deepO L len 10) n) (Pro.altQ L len (Pro.deepO L len 10) (Pro.deepT L len 10) n)) :=
 alternativesT_any b L n len 0 a (Pro.deepO L len 10) (Pro.deepT L len 10) w h hS hb hL hn hF (group_allT b L len a hb hL hF 10 (by omega)) (Pro.deepO_in 10)
end Go.Proofs.YtnagphodmfejiaaGreatDoor
namespace Go.Proofs.YtnagphodmfejiaaGreatDoor
open Sm (Tree capT)
namespace Pro
def SzIs (T : Tree) (v : Int) : Prop := ∃ F0, ∀ F, F0 ≤ F → capT F T = v
def SzAll (ts : List Tree) (zs : List Int) : Prop := ∃ F0, ∀ F, F0 ≤ F → ts.map (capT F) = zs
theorem sz_leaf {T : Tree} (h : T.kind ≤ 4) : SzIs T 1 := ⟨1, fun F hF => by
 obtain ⟨g, rfl⟩ : ∃ g, F = g + 1 := ⟨F - 1, by omega⟩
 unfold capT
 rw [if_neg (by omega), if_neg (by omega), if_neg (by omega)]⟩
theorem sz_nil : SzAll [] [] := ⟨0, fun _ _ => rfl⟩
theorem SzAll.snoc {ts : List Tree} {zs : List Int} {t : Tree} {z : Int} : SzAll ts zs → SzIs t z → SzAll (ts ++ [t]) (zs ++ [z])
 | ⟨F0, h⟩, ⟨F1, g⟩ => ⟨max F0 F1, fun F hF => by rw [List.map_append, h F (by omega)]; simp [g F (by omega)]⟩
theorem sz_seq {ts : List Tree} {zs : List Int} : SzAll ts zs → SzIs (tSeq ts) (sumS 0 zs)
 | ⟨F0, h⟩ => ⟨F0 + 1, fun F hF => by
   obtain ⟨g, rfl⟩ : ∃ g, F = g + 1 := ⟨F - 1, by omega⟩
   conv => lhs; unfold capT
   rw [if_neg (by simp [tSeq]), if_pos (by rfl)]
   show sumS 0 (ts.map (capT g)) = _
   rw [h g (by omega)]⟩
theorem SzAll.len {ts : List Tree} {zs : List Int} : SzAll ts zs → ts.length = zs.length
 | ⟨F0, h⟩ => by rw [← h F0 (Nat.le_refl _)]; simp
theorem sz_alt {ts : List Tree} {zs : List Int} (hz : SzAll ts zs) : SzIs (tAlt ts) (min (sumS 0 zs + zs.length - 1) 301) := by
 have hl := hz.len
 obtain ⟨F0, h⟩ := hz
 refine ⟨F0 + 1, fun F hF => ?_⟩
 obtain ⟨g, rfl⟩ : ∃ g, F = g + 1 := ⟨F - 1, by omega⟩
 conv => lhs; unfold capT
 rw [if_pos (by rfl)]
 show min (sumS 0 (ts.map (capT g)) + (ts.length : Int) - 1) 301 = _
 rw [h g (by omega), hl]
theorem sz_rep {t : Tree} {z : Int} (l m : Int) : SzIs t z → SzIs (tRep t l m) (min (repS z l m) 301)
 | ⟨F0, h⟩ => ⟨F0 + 1, fun F hF => by
   obtain ⟨g, rfl⟩ : ∃ g, F = g + 1 := ⟨F - 1, by omega⟩
   conv => lhs; unfold capT
   rw [if_neg (by simp [tRep]), if_neg (by simp [tRep]), if_pos (by rfl)]
   show min (repS (capT g t) l m) 301 = _
   rw [h g (by omega)]⟩
section
variable {L : List (Int × Int)} {len : Int}
theorem let_lt {n : Nat} {c : Int} (h : letAt L n = c) (hc : 0 ≤ c) : n < L.length := by
 by_cases hl : n < L.length
 · exact hl
 · rw [letAt_out (by omega)] at h; omega
theorem atomT_sz {D : Nat → Out} {DT : Nat → Tree} (hD : ∀ n, n < L.length → (D n).k = 0 → SzIs (DT n) (D n).v) (n : Nat) (hk : (atomO L len D n).k = 0) : SzIs (atomT L len DT n) (atomO L len D n).v := by
 unfold atomO at hk ⊢
 unfold atomT
 by_cases hw : wrongL (letAt L n) = true
 · rw [if_pos hw] at hk; simp [bad] at hk
 · rw [if_neg hw] at hk ⊢
   by_cases h1 : letAt L n = 40
   · rw [if_pos h1] at hk ⊢; rw [if_pos h1]; exact hD n (let_lt (c := 40) h1 (by omega)) hk
   · rw [if_neg h1] at hk ⊢; rw [if_neg h1]
     by_cases h2 : letAt L n = 91
     · rw [if_pos h2] at hk ⊢; rw [if_pos h2]
       unfold one at hk ⊢
       split at hk
       · rename_i h3; rw [if_pos h3]; exact sz_leaf (by simp [classT, tCls])
       · rename_i h3; exact absurd hk h3
     · rw [if_neg h2] at hk ⊢; rw [if_neg h2]
       by_cases h3 : letAt L n = 92
       · rw [if_pos h3] at hk ⊢; rw [if_pos h3]
         unfold one at hk ⊢
         split at hk
         · rename_i h4; rw [if_pos h4]; unfold oneT; split <;> exact sz_leaf (by simp [tShort, tChar])
         · rename_i h4; exact absurd hk h4
       · rw [if_neg h3] at hk ⊢; rw [if_neg h3]
         split <;> exact sz_leaf (by simp [tAny, tChar])
theorem termT_sz {D : Nat → Out} {DT : Nat → Tree} (hD : ∀ n, n < L.length → (D n).k = 0 → SzIs (DT n) (D n).v) (n : Nat) (hk : (termO L len D n).k = 0) : SzIs (termT L len D DT n) (termO L len D n).v := by
 unfold termO at hk ⊢
 unfold termT
 by_cases h0 : asN L n ≠ 0
 · rw [if_pos h0, if_pos h0]; exact sz_leaf (by simp [tAsr])
 · rw [if_neg h0] at hk ⊢; rw [if_neg h0]
   by_cases h1 : (atomO L len D n).k ≠ 0
   · rw [if_pos h1] at hk; exact absurd hk h1
   · rw [if_neg h1] at hk ⊢
     have ha := atomT_sz (L := L) (len := len) hD n (by simpa using h1)
     by_cases h2 : (quantO L len (atomO L len D n).n).1 = false
     · rw [if_pos h2, if_pos h2]; exact ha
     · rw [if_neg h2] at hk ⊢; rw [if_neg h2]
       by_cases h3 : (quantO L len (atomO L len D n).n).2.1.k ≠ 0
       · rw [if_pos h3] at hk; exact absurd hk h3
       · rw [if_neg h3]; exact sz_rep _ _ ha
theorem termsT_sz {D : Nat → Out} {DT : Nat → Tree} (hD : ∀ n, n < L.length → (D n).k = 0 → SzIs (DT n) (D n).v) : ∀ (f : Nat) (ts : List Tree) (zs : List Int) (n : Nat), SzAll ts zs → (termsO L len D f (sumS 0 zs) n).k = 0 → ∃ zs', SzAll (termsT L len D DT f ts n) zs' ∧ (termsO L len D f (sumS 0 zs) n).v = sumS 0 zs'
 | 0, _, zs, _, h, _ => ⟨zs, h, rfl⟩
 | f + 1, ts, zs, n, h, hk => by
   unfold termsO at hk ⊢
   unfold termsT
   by_cases h0 : stopB L n = true
   · rw [if_pos h0, if_pos h0]; exact ⟨zs, h, rfl⟩
   · rw [if_neg h0] at hk ⊢; rw [if_neg h0]
     by_cases h1 : (termO L len D n).k ≠ 0
     · rw [if_pos h1] at hk; exact absurd hk h1
     · rw [if_neg h1] at hk ⊢
       have ht := termT_sz (L := L) (len := len) hD n (by simpa using h1)
       rw [← sumS_append] at hk ⊢
       exact termsT_sz hD f _ _ _ (h.snoc ht) hk
theorem termsQ_sz {D : Nat → Out} {DT : Nat → Tree} (hD : ∀ n, n < L.length → (D n).k = 0 → SzIs (DT n) (D n).v) (n : Nat) (hk : (termsP L len D n).k = 0) : SzIs (termsQ L len D DT n) (termsP L len D n).v := by
 obtain ⟨zs, h1, h2⟩ := termsT_sz hD (L.length + 1 - n) [] [] n sz_nil hk
 have e : (termsP L len D n).v = sumS 0 zs := h2
 rw [e]
 exact sz_seq h1
theorem altT_sz {D : Nat → Out} {DT : Nat → Tree} (hO : DOK L D) (hD : ∀ n, n < L.length → (D n).k = 0 → SzIs (DT n) (D n).v) : ∀ (f : Nat) (ts : List Tree) (zs : List Int) (n : Nat), n ≤ L.length → L.length + 1 - n ≤ f → SzAll ts zs → (altO L len D f zs n).k = 0 → ∃ zs', SzAll (altT L len D DT f ts n) zs' ∧ (altO L len D f zs n).v = min (sumS 0 zs' + zs'.length - 1) 301
 | 0, _, _, n, h, hf, _, _ => by omega
 | f + 1, ts, zs, n, h, hf, hz, hk => by
   unfold altO at hk ⊢
   unfold altT
   have hin := termsP_in (len := len) hO n h
   by_cases h0 : (termsP L len D n).k ≠ 0
   · rw [if_pos h0] at hk; exact absurd hk h0
   · rw [if_neg h0] at hk ⊢
     have ht := termsQ_sz (L := L) (len := len) hD n (by simpa using h0)
     by_cases h1 : letAt L (termsP L len D n).n = 124
     · rw [if_pos h1] at hk ⊢; rw [if_pos h1]
       have hl := let_lt h1 (by omega)
       exact altT_sz hO hD f _ _ _ (by omega) (by omega) (hz.snoc ht) hk
     · rw [if_neg h1, if_neg h1]
       refine ⟨zs ++ [(termsP L len D n).v], hz.snoc ht, ?_⟩
       rw [List.length_append]
       rfl
theorem altQ_sz {D : Nat → Out} {DT : Nat → Tree} (hO : DOK L D) (hD : ∀ n, n < L.length → (D n).k = 0 → SzIs (DT n) (D n).v) (n : Nat) (hn : n ≤ L.length) (hk : (altP L len D n).k = 0) : SzIs (altQ L len D DT n) (altP L len D n).v := by
 obtain ⟨zs, h1, h2⟩ := altT_sz hO hD (L.length + 1 - n) [] [] n hn (Nat.le_refl _) sz_nil hk
 have e : (altP L len D n).v = min (sumS 0 zs + zs.length - 1) 301 := h2
 rw [e]
 exact sz_alt h1
theorem deepT_sz : ∀ (r n : Nat), n < L.length → (deepO L len r n).k = 0 → SzIs (deepT L len r n) (deepO L len r n).v
 | 0, _, _, hk => by simp [deepO, bad] at hk
 | r + 1, n, hn, hk => by
   have ho := openO_in (L := L) (len := len) n hn
   have e : deepO L len (r + 1) n = groupO L len (altP L len (deepO L len r)) n := rfl
   rw [e] at hk ⊢
   unfold groupO at hk ⊢
   by_cases h1 : (openO L len n).k ≠ 0
   · rw [if_pos h1] at hk; exact absurd hk h1
   · rw [if_neg h1] at hk ⊢
     by_cases h2 : (altP L len (deepO L len r) (openO L len n).n).k ≠ 0
     · rw [if_pos h2] at hk; exact absurd hk h2
     · rw [if_neg h2] at hk ⊢
       by_cases h3 : letAt L (altP L len (deepO L len r) (openO L len n).n).n = 41
       · rw [if_pos h3]
         exact altQ_sz (deepO_in r) (fun n hn hk => deepT_sz r n hn hk) _ (by omega) (by simpa using h2)
       · rw [if_neg h3] at hk; simp [bad] at hk
theorem whole_sz (r n : Nat) (hn : n ≤ L.length) (hk : (altP L len (deepO L len r) n).k = 0) : SzIs (altQ L len (deepO L len r) (deepT L len r) n) (altP L len (deepO L len r) n).v := altQ_sz (deepO_in r) (fun n hn hk => deepT_sz r n hn hk) n hn hk
end
theorem SzIs.at {T : Tree} {v : Int} {F : Nat} (h : SzIs T v) (hw : Sm.WF F T) : capT F T = v := by
 obtain ⟨F0, h0⟩ := h
 rw [← Sm.capT_up hw (show F ≤ max F F0 by omega)]
 exact h0 _ (by omega)
end Pro
end Go.Proofs.YtnagphodmfejiaaGreatDoor
namespace Go.Proofs.YtnagphodmfejiaaGreatDoor
open Go.RowKit
theorem Tryz.as00 (v : Value) (w : World) : (Instr.typeAssert (.iface 154 v) 90 154 true).run Tryz.prog w = .ok (.tuple #[v, .bool true]) w := by kernel_rfl
theorem Tryz.as01 (v : Value) (w : World) : (Instr.typeAssert (.iface 154 v) 90 244 true).run Tryz.prog w = .ok (.tuple #[.agg #[], .bool false]) w := by kernel_rfl
theorem Tryz.as02 (v : Value) (w : World) : (Instr.typeAssert (.iface 154 v) 90 245 true).run Tryz.prog w = .ok (.tuple #[.int .i32 0, .bool false]) w := by kernel_rfl
theorem Tryz.as03 (v : Value) (w : World) : (Instr.typeAssert (.iface 154 v) 90 246 true).run Tryz.prog w = .ok (.tuple #[.int .i32 0, .bool false]) w := by kernel_rfl
theorem Tryz.as04 (v : Value) (w : World) : (Instr.typeAssert (.iface 154 v) 90 250 true).run Tryz.prog w = .ok (.tuple #[.agg #[.bool false, .slice none 0 0, .slice none 0 0], .bool false]) w := by kernel_rfl
theorem Tryz.as10 (v : Value) (w : World) : (Instr.typeAssert (.iface 244 v) 90 154 true).run Tryz.prog w = .ok (.tuple #[.int .i64 0, .bool false]) w := by kernel_rfl
theorem Tryz.as11 (v : Value) (w : World) : (Instr.typeAssert (.iface 244 v) 90 244 true).run Tryz.prog w = .ok (.tuple #[v, .bool true]) w := by kernel_rfl
theorem Tryz.as12 (v : Value) (w : World) : (Instr.typeAssert (.iface 244 v) 90 245 true).run Tryz.prog w = .ok (.tuple #[.int .i32 0, .bool false]) w := by kernel_rfl
theorem Tryz.as13 (v : Value) (w : World) : (Instr.typeAssert (.iface 244 v) 90 246 true).run Tryz.prog w = .ok (.tuple #[.int .i32 0, .bool false]) w := by kernel_rfl
theorem Tryz.as14 (v : Value) (w : World) : (Instr.typeAssert (.iface 244 v) 90 250 true).run Tryz.prog w = .ok (.tuple #[.agg #[.bool false, .slice none 0 0, .slice none 0 0], .bool false]) w := by kernel_rfl
theorem Tryz.as20 (v : Value) (w : World) : (Instr.typeAssert (.iface 245 v) 90 154 true).run Tryz.prog w = .ok (.tuple #[.int .i64 0, .bool false]) w := by kernel_rfl
theorem Tryz.as21 (v : Value) (w : World) : (Instr.typeAssert (.iface 245 v) 90 244 true).run Tryz.prog w = .ok (.tuple #[.agg #[], .bool false]) w := by kernel_rfl
theorem Tryz.as22 (v : Value) (w : World) : (Instr.typeAssert (.iface 245 v) 90 245 true).run Tryz.prog w = .ok (.tuple #[v, .bool true]) w := by kernel_rfl
theorem Tryz.as23 (v : Value) (w : World) : (Instr.typeAssert (.iface 245 v) 90 246 true).run Tryz.prog w = .ok (.tuple #[.int .i32 0, .bool false]) w := by kernel_rfl
theorem Tryz.as24 (v : Value) (w : World) : (Instr.typeAssert (.iface 245 v) 90 250 true).run Tryz.prog w = .ok (.tuple #[.agg #[.bool false, .slice none 0 0, .slice none 0 0], .bool false]) w := by kernel_rfl
theorem Tryz.as30 (v : Value) (w : World) : (Instr.typeAssert (.iface 246 v) 90 154 true).run Tryz.prog w = .ok (.tuple #[.int .i64 0, .bool false]) w := by kernel_rfl
theorem Tryz.as31 (v : Value) (w : World) : (Instr.typeAssert (.iface 246 v) 90 244 true).run Tryz.prog w = .ok (.tuple #[.agg #[], .bool false]) w := by kernel_rfl
theorem Tryz.as32 (v : Value) (w : World) : (Instr.typeAssert (.iface 246 v) 90 245 true).run Tryz.prog w = .ok (.tuple #[.int .i32 0, .bool false]) w := by kernel_rfl
theorem Tryz.as33 (v : Value) (w : World) : (Instr.typeAssert (.iface 246 v) 90 246 true).run Tryz.prog w = .ok (.tuple #[v, .bool true]) w := by kernel_rfl
theorem Tryz.as34 (v : Value) (w : World) : (Instr.typeAssert (.iface 246 v) 90 250 true).run Tryz.prog w = .ok (.tuple #[.agg #[.bool false, .slice none 0 0, .slice none 0 0], .bool false]) w := by kernel_rfl
theorem Tryz.as40 (v : Value) (w : World) : (Instr.typeAssert (.iface 250 v) 90 154 true).run Tryz.prog w = .ok (.tuple #[.int .i64 0, .bool false]) w := by kernel_rfl
theorem Tryz.as41 (v : Value) (w : World) : (Instr.typeAssert (.iface 250 v) 90 244 true).run Tryz.prog w = .ok (.tuple #[.agg #[], .bool false]) w := by kernel_rfl
theorem Tryz.as42 (v : Value) (w : World) : (Instr.typeAssert (.iface 250 v) 90 245 true).run Tryz.prog w = .ok (.tuple #[.int .i32 0, .bool false]) w := by kernel_rfl
theorem Tryz.as43 (v : Value) (w : World) : (Instr.typeAssert (.iface 250 v) 90 246 true).run Tryz.prog w = .ok (.tuple #[.int .i32 0, .bool false]) w := by kernel_rfl
theorem Tryz.as44 (v : Value) (w : World) : (Instr.typeAssert (.iface 250 v) 90 250 true).run Tryz.prog w = .ok (.tuple #[v, .bool true]) w := by kernel_rfl
theorem Tryz.as50 (v : Value) (w : World) : (Instr.typeAssert (.iface 228 v) 90 154 true).run Tryz.prog w = .ok (.tuple #[.int .i64 0, .bool false]) w := by kernel_rfl
theorem Tryz.as51 (v : Value) (w : World) : (Instr.typeAssert (.iface 228 v) 90 244 true).run Tryz.prog w = .ok (.tuple #[.agg #[], .bool false]) w := by kernel_rfl
theorem Tryz.as52 (v : Value) (w : World) : (Instr.typeAssert (.iface 228 v) 90 245 true).run Tryz.prog w = .ok (.tuple #[.int .i32 0, .bool false]) w := by kernel_rfl
theorem Tryz.as53 (v : Value) (w : World) : (Instr.typeAssert (.iface 228 v) 90 246 true).run Tryz.prog w = .ok (.tuple #[.int .i32 0, .bool false]) w := by kernel_rfl
theorem Tryz.as54 (v : Value) (w : World) : (Instr.typeAssert (.iface 228 v) 90 250 true).run Tryz.prog w = .ok (.tuple #[.agg #[.bool false, .slice none 0 0, .slice none 0 0], .bool false]) w := by kernel_rfl
theorem Tryz.as55 (v : Value) (w : World) : (Instr.typeAssert (.iface 228 v) 90 228 true).run Tryz.prog w = .ok (.tuple #[v, .bool true]) w := by kernel_rfl
theorem Tryz.as60 (v : Value) (w : World) : (Instr.typeAssert (.iface 252 v) 90 154 true).run Tryz.prog w = .ok (.tuple #[.int .i64 0, .bool false]) w := by kernel_rfl
theorem Tryz.as61 (v : Value) (w : World) : (Instr.typeAssert (.iface 252 v) 90 244 true).run Tryz.prog w = .ok (.tuple #[.agg #[], .bool false]) w := by kernel_rfl
theorem Tryz.as62 (v : Value) (w : World) : (Instr.typeAssert (.iface 252 v) 90 245 true).run Tryz.prog w = .ok (.tuple #[.int .i32 0, .bool false]) w := by kernel_rfl
theorem Tryz.as63 (v : Value) (w : World) : (Instr.typeAssert (.iface 252 v) 90 246 true).run Tryz.prog w = .ok (.tuple #[.int .i32 0, .bool false]) w := by kernel_rfl
theorem Tryz.as64 (v : Value) (w : World) : (Instr.typeAssert (.iface 252 v) 90 250 true).run Tryz.prog w = .ok (.tuple #[.agg #[.bool false, .slice none 0 0, .slice none 0 0], .bool false]) w := by kernel_rfl
theorem Tryz.as65 (v : Value) (w : World) : (Instr.typeAssert (.iface 252 v) 90 228 true).run Tryz.prog w = .ok (.tuple #[.slice none 0 0, .bool false]) w := by kernel_rfl
theorem Tryz.as66 (v : Value) (w : World) : (Instr.typeAssert (.iface 252 v) 90 252 true).run Tryz.prog w = .ok (.tuple #[v, .bool true]) w := by kernel_rfl
theorem Tryz.as70 (v : Value) (w : World) : (Instr.typeAssert (.iface 254 v) 90 154 true).run Tryz.prog w = .ok (.tuple #[.int .i64 0, .bool false]) w := by kernel_rfl
theorem Tryz.as71 (v : Value) (w : World) : (Instr.typeAssert (.iface 254 v) 90 244 true).run Tryz.prog w = .ok (.tuple #[.agg #[], .bool false]) w := by kernel_rfl
theorem Tryz.as72 (v : Value) (w : World) : (Instr.typeAssert (.iface 254 v) 90 245 true).run Tryz.prog w = .ok (.tuple #[.int .i32 0, .bool false]) w := by kernel_rfl
theorem Tryz.as73 (v : Value) (w : World) : (Instr.typeAssert (.iface 254 v) 90 246 true).run Tryz.prog w = .ok (.tuple #[.int .i32 0, .bool false]) w := by kernel_rfl
theorem Tryz.as74 (v : Value) (w : World) : (Instr.typeAssert (.iface 254 v) 90 250 true).run Tryz.prog w = .ok (.tuple #[.agg #[.bool false, .slice none 0 0, .slice none 0 0], .bool false]) w := by kernel_rfl
theorem Tryz.as75 (v : Value) (w : World) : (Instr.typeAssert (.iface 254 v) 90 228 true).run Tryz.prog w = .ok (.tuple #[.slice none 0 0, .bool false]) w := by kernel_rfl
theorem Tryz.as76 (v : Value) (w : World) : (Instr.typeAssert (.iface 254 v) 90 252 true).run Tryz.prog w = .ok (.tuple #[.slice none 0 0, .bool false]) w := by kernel_rfl
theorem Tryz.as77 (v : Value) (w : World) : (Instr.typeAssert (.iface 254 v) 90 254 true).run Tryz.prog w = .ok (.tuple #[v, .bool true]) w := by kernel_rfl
set_option maxHeartbeats 2000000 in
set_option maxRecDepth 1000000 in
theorem leaf_any (w : World) (T : TypeId) (x : Value) (h : leafT T) :
   Calls Tryz.prog 59 #[.iface T x] w fun e w' => e = .returned (.int .i64 1) ∧ w' = w := by
 rcases h with rfl | rfl | rfl | rfl | rfl
 · have a0 := Tryz.as00
   have a1 := Tryz.as01
   have a2 := Tryz.as02
   have a3 := Tryz.as03
   have a4 := Tryz.as04
   go_enter Tryz.func59, Tryz.ntmps59
   go_wp2_with fail
   go_ret
   exact ⟨rfl, rfl⟩
 · have a0 := Tryz.as10
   have a1 := Tryz.as11
   have a2 := Tryz.as12
   have a3 := Tryz.as13
   have a4 := Tryz.as14
   go_enter Tryz.func59, Tryz.ntmps59
   go_wp2_with fail
   go_ret
   exact ⟨rfl, rfl⟩
 · have a0 := Tryz.as20
   have a1 := Tryz.as21
   have a2 := Tryz.as22
   have a3 := Tryz.as23
   have a4 := Tryz.as24
   go_enter Tryz.func59, Tryz.ntmps59
   go_wp2_with fail
   go_ret
   exact ⟨rfl, rfl⟩
 · have a0 := Tryz.as30
   have a1 := Tryz.as31
   have a2 := Tryz.as32
   have a3 := Tryz.as33
   have a4 := Tryz.as34
   go_enter Tryz.func59, Tryz.ntmps59
   go_wp2_with fail
   go_ret
   exact ⟨rfl, rfl⟩
 · have a0 := Tryz.as40
   have a1 := Tryz.as41
   have a2 := Tryz.as42
   have a3 := Tryz.as43
   have a4 := Tryz.as44
   go_enter Tryz.func59, Tryz.ntmps59
   go_wp2_with fail
   go_ret
   exact ⟨rfl, rfl⟩
def SizeOK (f : Nat) : Prop := ∀ (w : World) (A : Nat → Prop) (v : Value) (z : Int), SizeAt f w A v z → Calls Tryz.prog 59 #[v] w fun e w' => e = .returned (.int .i64 z) ∧ Only (fun _ => False) w w'
theorem SizeAt.drewN {f : Nat} {w : World} {A : Nat → Prop} {v : Value} {z : Int} (h : SizeAt f w A v z) (q : Nat) : SizeAt f (w.drewN q) A v z := SizeAt.keep ((Only.refl (fun _ => False) w).drewN q) (fun _ _ f => f) f v z h
set_option maxHeartbeats 2000000 in
set_option maxRecDepth 1000000 in
theorem sum_any (f : Nat) (hf : SizeOK f) (w : World) (A : Nat → Prop) (sv : Value) (xs : List Value) (zs : List Int) (hr : RowAt w A sv xs) (hx : xs.length ≤ 1000) (hs : Sizes f w A xs zs) :
   Calls Tryz.prog 110 #[sv] w fun e w' => e = .returned (.int .i64 (Pro.sumS 0 zs)) ∧ Only (fun _ => False) w w' := by
 have HS := hide hs
 have HF := hide hf
 have hzl := hs.1
 clear hs hf
 rcases hr with ⟨rfl, rfl⟩ | ⟨g, cap, rfl, hA, hc, hg, hcell⟩
 · have hz : zs = [] := List.eq_nil_of_length_eq_zero (by simpa using hzl)
   subst hz
   go_enter Tryz.func110, Tryz.ntmps110
   go_wp2_with fail
   refine wp_loop_rounds 1 ?_
   rw [rounds_succ]
   go_wp2_with fail
   go_ret
   exact ⟨rfl, Only.refl _ _⟩
 · have HC := hide hcell
   clear hcell
   go_enter Tryz.func110, Tryz.ntmps110
   go_wp2_with fail
   go_loopw [3, 8] (fun t i wr => ∃ (j : Nat), i = .int .i64 j ∧ j ≤ xs.length ∧ Only (fun _ => False) w wr ∧ 0 ≤ Pro.sumS 0 (zs.take j) ∧ Pro.sumS 0 (zs.take j) ≤ 301 ∧ t = .int .i64 (Pro.sumS 0 (zs.take j))) (fun _ i _ => xs.length - (intOf i).toNat)
   case atStart => exact ⟨0, rfl, by omega, Only.refl _ _, by simp [Pro.sumS], by simp [Pro.sumS], by simp [Pro.sumS]⟩
   case round =>
     obtain ⟨j, rfl, hj, hO, ht0, ht1, rfl⟩ := hrel
     by_cases hlt : j < xs.length
     · have hx1 := List.getElem?_eq_getElem hlt
       have hz1 : zs[j]? = some (zs[j]'(by omega)) := List.getElem?_eq_getElem (by omega)
       have hcj := (hO.cell (World.block_lt_of_cell? w _ (unhide HC j xs[j] hx1)) (fun f => f)).trans (unhide HC j xs[j] hx1)
       have hsj := SizeAt.keep hO (fun _ _ f => f) f _ _ ((unhide HS).2 j xs[j] (zs[j]'(by omega)) hx1 hz1)
       have hbd := SizeAt.bd f _ _ hsj
       have hst : zs.take (j + 1) = zs.take j ++ [zs[j]'(by omega)] := by rw [List.take_add_one, hz1]; rfl
       have Hst := hide hst
       have Hsj := hide hsj
       generalize hZ : zs[j]'(by omega) = Z at *
       generalize hX : xs[j] = X at *
       clear hx1 hz1 hst hsj hZ hX
       go_wp2_with (go_at_call 59; refine (unhide HF _ A X Z (unhide Hsj)).mono ?_; rintro e w1 ⟨rfl, hO1⟩)
       have e1 : Pro.sumS 0 (zs.take (j + 1)) = min (Pro.sumS 0 (zs.take j) + Z) 301 := by rw [unhide Hst, Pro.sumS_append]
       exact ⟨⟨j + 1, by go_num, by omega, hO.trans hO1, by rw [e1]; omega, by rw [e1]; omega, by rw [e1, show (if 301 < Pro.sumS 0 (zs.take j) + Z then (301 : Int) else Pro.sumS 0 (zs.take j) + Z) = min (Pro.sumS 0 (zs.take j) + Z) 301 by split <;> omega]⟩, by simp [intOf]; omega⟩
     · have HE : Hid (zs.take j = zs) := by exact List.take_of_length_le (by omega)
       go_wp2_with fail
       go_ret
       rw [unhide HE]
       exact ⟨rfl, hO⟩
theorem sizes_bd {f : Nat} {w : World} {A : Nat → Prop} {xs : List Value} {zs : List Int} (h : Sizes f w A xs zs) : 0 ≤ Pro.sumS 0 zs ∧ Pro.sumS 0 zs ≤ 301 := by
 refine Pro.sumS_bd zs 0 (by omega) (by omega) ?_
 intro y hy
 obtain ⟨j, hj⟩ := mem_index hy
 have hjl : j < xs.length := by
   by_cases hlt : j < zs.length
   · have := h.1; omega
   · rw [List.getElem?_eq_none (by omega)] at hj; cases hj
 exact (SizeAt.bd f _ _ (h.2 j xs[j] y (List.getElem?_eq_getElem hjl) hj)).1
theorem mul_bd {x y X Y : Int} (h0 : 0 ≤ x) (h1 : x ≤ X) (h2 : 0 ≤ y) (h3 : y ≤ Y) : 0 ≤ x * y ∧ x * y ≤ X * Y := by
 refine ⟨Int.mul_nonneg h0 h2, ?_⟩
 have a := Int.mul_le_mul_of_nonneg_right h1 h2
 have b := Int.mul_le_mul_of_nonneg_left h3 (show (0 : Int) ≤ X by omega)
 omega
set_option maxHeartbeats 2000000 in
set_option maxRecDepth 1000000 in
theorem repeatSize_any (f : Nat) (hf : SizeOK f) (w : World) (A : Nat → Prop) (p : Value) (l m z : Int) (hs : SizeAt f w A p z) (h0 : 0 ≤ l) (h1 : l ≤ 100) (h2 : -1 ≤ m) (h3 : m ≤ 100) (h4 : m = -1 ∨ l ≤ m) :
   Calls Tryz.prog 111 #[.agg #[p, .int .i64 l, .int .i64 m]] w fun e w' => e = .returned (.int .i64 (Pro.repS z l m)) ∧ Only (fun _ => False) w w' := by
 have hbd := SizeAt.bd f _ _ hs
 have HS := hide hs
 have HF := hide hf
 clear hs hf
 by_cases hm : m = -1
 · have HR : Hid (Pro.repS z l m = max l 1 * z + 1) := by unfold Pro.repS; rw [if_pos hm]; rfl
   have hmx : (if l < 1 then (1 : Int) else l) = max l 1 := by split <;> omega
   have hmm := mul_bd (x := max l 1) (y := z) (X := 100) (Y := 301) (by omega) (by omega) hbd.1 hbd.2
   subst hm
   go_enter Tryz.func111, Tryz.ntmps111
   go_wp2_with (go_at_call 59; refine (unhide HF _ A p z (SizeAt.keep ((Only.refl (fun _ => False) w).alloc _) (fun _ _ f => f) f _ _ (unhide HS))).mono ?_; rintro e w1 ⟨rfl, hO1⟩; have r1 : w1.cell? ⟨w.heap.size, 1, none⟩ = some (.int .i64 l) := cell_kept hO1 _ _ (new_cell w _ rfl _ _ 1 _ rfl) (fun f => f); have r2 : w1.cell? ⟨w.heap.size, 2, none⟩ = some (.int .i64 (-1)) := cell_kept hO1 _ _ (new_cell w _ rfl _ _ 2 _ rfl) (fun f => f))
   go_ret
   rw [unhide HR]
   exact ⟨rfl, ((Only.refl _ _).alloc _).trans hO1⟩
 · have HR : Hid (Pro.repS z l m = l * z + (m - l) * (z + 1)) := by unfold Pro.repS; rw [if_neg hm]; rfl
   have hm' : (m == -1) = false := by simp [hm]
   have hm1 := mul_bd (x := l) (y := z) (X := 100) (Y := 301) h0 h1 hbd.1 hbd.2
   have hm2 := mul_bd (x := m - l) (y := z + 1) (X := 100) (Y := 302) (by omega) (by omega) (by omega) (by omega)
   go_enter Tryz.func111, Tryz.ntmps111
   go_wp2_with (go_at_call 59; refine (unhide HF _ A p z (SizeAt.keep ((Only.refl (fun _ => False) w).alloc _) (fun _ _ f => f) f _ _ (unhide HS))).mono ?_; rintro e w1 ⟨rfl, hO1⟩; have r1 : w1.cell? ⟨w.heap.size, 1, none⟩ = some (.int .i64 l) := cell_kept hO1 _ _ (new_cell w _ rfl _ _ 1 _ rfl) (fun f => f); have r2 : w1.cell? ⟨w.heap.size, 2, none⟩ = some (.int .i64 m) := cell_kept hO1 _ _ (new_cell w _ rfl _ _ 2 _ rfl) (fun f => f))
   go_ret
   rw [unhide HR]
   exact ⟨rfl, ((Only.refl _ _).alloc _).trans hO1⟩
theorem SizeAt.form {f : Nat} {w : World} {A : Nat → Prop} {v : Value} {z : Int} (h : SizeAt f w A v z) : ∃ T y, v = .iface T y := by
 cases f with
 | zero => exact h.elim
 | succ f =>
   rcases h with ⟨_, T, x, _, h⟩ | ⟨sv, _, _, h, _⟩ | ⟨sv, _, _, h, _⟩ | ⟨p, l, m, _, h, _⟩
   · exact ⟨_, _, h⟩
   · exact ⟨_, _, h⟩
   · exact ⟨_, _, h⟩
   · exact ⟨_, _, h⟩
set_option maxHeartbeats 4000000 in
set_option maxRecDepth 1000000 in
theorem size_step (f : Nat) (hf : SizeOK f) : SizeOK (f + 1) := by
 intro w A v z h
 have hbd := SizeAt.bd _ _ _ h
 rcases h with ⟨rfl, T, x, hl, rfl⟩ | ⟨sv, xs, zs, rfl, h2, h0, h3, h4, h5, h6⟩ | ⟨sv, xs, zs, rfl, h2, h0, h3, h4, h5⟩ | ⟨p, l, m, z', rfl, h2, h3, h4, h5, h6, h7, h8⟩
 · exact (leaf_any w T x hl).mono (by rintro e w1 ⟨rfl, rfl⟩; exact ⟨rfl, Only.refl _ _⟩)
 · have hsum := sum_any f hf w A sv xs zs h2 h0 ⟨h3, h4⟩
   have HSum := hide hsum
   have hsb : 0 ≤ Pro.sumS 0 zs ∧ Pro.sumS 0 zs ≤ 301 := sizes_bd ⟨h3, h4⟩
   obtain ⟨sa, sc, rfl⟩ : ∃ sa sc, sv = .slice sa xs.length sc := by
     rcases h2 with ⟨rfl, rfl⟩ | ⟨g, cap, rfl, _⟩
     · exact ⟨_, _, rfl⟩
     · exact ⟨_, _, rfl⟩
   clear hsum h2 h4 hf
   have a0 := Tryz.as50
   have a1 := Tryz.as51
   have a2 := Tryz.as52
   have a3 := Tryz.as53
   have a4 := Tryz.as54
   have a5 := Tryz.as55
   go_enter Tryz.func59, Tryz.ntmps59
   go_wp2_with (go_at_call 110; refine (unhide HSum).mono ?_; rintro e w1 ⟨rfl, hO1⟩)
   all_goals
     go_ret
     exact ⟨pro_ret_int (by omega), hO1⟩
 · have hsum := sum_any f hf w A sv xs zs h2 h0 ⟨h3, h4⟩
   have HSum := hide hsum
   clear hsum h2 h4 hf
   have a0 := Tryz.as60
   have a1 := Tryz.as61
   have a2 := Tryz.as62
   have a3 := Tryz.as63
   have a4 := Tryz.as64
   have a5 := Tryz.as65
   have a6 := Tryz.as66
   go_enter Tryz.func59, Tryz.ntmps59
   go_wp2_with (go_at_call 110; refine (unhide HSum).mono ?_; rintro e w1 ⟨rfl, hO1⟩)
   go_ret
   rw [h5]
   exact ⟨rfl, hO1⟩
 · obtain ⟨TT, px, rfl⟩ := SizeAt.form h2
   have HF := hide hf
   have HS := hide h2
   have hz := SizeAt.bd f _ _ h2
   have hnn := Pro.repS_nn (z := z') hz.1 h3 h7
   clear h2 hf
   have a0 := Tryz.as70
   have a1 := Tryz.as71
   have a2 := Tryz.as72
   have a3 := Tryz.as73
   have a4 := Tryz.as74
   have a5 := Tryz.as75
   have a6 := Tryz.as76
   have a7 := Tryz.as77
   go_enter Tryz.func59, Tryz.ntmps59
   go_wp2_with (go_at_call 111; refine (repeatSize_any f (unhide HF) _ A (.iface TT px) l m z' (SizeAt.keep ((Only.refl (fun _ => False) w).alloc _) (fun _ _ f => f) f _ _ (unhide HS)) h3 h4 h5 h6 h7).mono ?_; rintro e w1 ⟨rfl, hO1⟩)
   all_goals
     go_ret
     exact ⟨pro_ret_int (by omega), ((Only.refl _ _).alloc _).trans hO1⟩
theorem size_all : ∀ f, SizeOK f
 | 0 => fun _ _ _ _ h => h.elim
 | f + 1 => size_step f (size_all f)
set_option maxHeartbeats 2000000 in
theorem patternSize_any (f : Nat) (w : World) (A : Nat → Prop) (v : Value) (z : Int) (h : SizeAt f w A v z) :
   Calls Tryz.prog 33 #[v] w fun e w' => e = .returned (.int .i64 (min (z + 1) 301)) ∧ Only (fun _ => False) w w' := by
 have hbd := SizeAt.bd _ _ _ h
 have H := hide h
 clear h
 go_enter Tryz.func33, Tryz.ntmps33
 go_wp2_with (go_at_call 59; refine (size_all f _ A v z (unhide H)).mono ?_; rintro e w1 ⟨rfl, hO1⟩)
 all_goals
   go_ret
   exact ⟨pro_ret_int (by omega), hO1⟩
end Go.Proofs.YtnagphodmfejiaaGreatDoor
