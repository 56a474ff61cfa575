/- The program's alternatives. The program's groups, and so its patterns: by how deep they may still go. -/
import Derived.Test.YtdhmllobgijggaaGreatDoorKParAF
namespace Go.Proofs.YtdhmllobgijggaaGreatDoor
open Go.RowKit

theorem alt_grow {b : Nat} {L : List (Int × Int)} {len dp : Int} {a : Nat → Addr} {w wr w3 W w4 : World} {sv sv' x : Value} {T : TypeId} {xs : List Value} {zs : List Int} {z : Int} {F G m : Nat} (hlt : b < w.heap.size) (_hb : 10 ≤ b) (_hS : Sents w a) (hO : Only (Mine b) w wr) (hown : wr.ownsRow w.heap.size T 1 sv xs.length xs) (hsz : Sizes F wr (Apart w.heap.size sv) xs zs) (hO3 : Only (Mine b) wr w3) (hR3 : RdAt w3 b L m len dp) (hx : SizeAt G w3 (fun g => wr.heap.size ≤ g) x z)
    (hW : Only (fun _ => False) w3 W) (hg : W.grownBy w4 sv.ownBlock) (hsep : ∀ k, sv'.ownBlock = some k → sv.ownBlock = some k ∨ W.heap.size ≤ k) : Only (Mine b) w w4 ∧ RdAt w4 b L m len dp ∧ Sizes (max F G) w4 (Apart w.heap.size sv') (xs ++ [x]) (zs ++ [z]) := by
  have hnb : ∀ g, g ≤ b → ¬ (sv.ownBlock = some g) := fun g hg e => by have := (ownsRow_block hown g e).1; omega
  refine ⟨(((hO.trans hO3).trans (hW.mono (fun _ _ f => f.elim)))).grown hg (fun j hj => Or.inr (ownsRow_block hown j hj).1), (hR3.keep hW (fun f => f) (fun _ _ f => f)).keep (Only.ofGrown hg) (hnb b (Nat.le_refl _)) (fun g hg => hnb g (by omega)), row_grow hO.size hlt hown hsz hO3 hx hW hg hsep⟩

set_option maxHeartbeats 4000000 in
set_option maxRecDepth 1000000 in
theorem alternatives_any (b : Nat) (L : List (Int × Int)) (n : Nat) (len dp : Int) (a : Nat → Addr) (D : Nat → Pro.Out) (w : World) (h : RdAt w b L n len dp) (hS : Sents w a) (hb : 10 ≤ b) (hL : L.length ≤ 400) (hn : n ≤ L.length) (hF : Pro.Fit L) (hG : GroupOK b L len dp a D) (hD : Pro.DOK L D) :
    Calls Tryz.prog 48 #[.pointer (some ⟨b, 0, none⟩)] w (Gives b L len dp a w (Pro.altP L len D n)) := by
  obtain ⟨i0, hi, hz0, hz1, hz2⟩ := info_parts Tryz.infoPt
  have hlt := h.lt
  have HS := hide hS
  have HG := hide hG
  have HD := hide hD
  clear hS hG hD
  go_enter Tryz.func48, Tryz.ntmps48
  go_wp2_with fail
  go_loopw [4] (fun sv wr => ∃ (m f F : Nat) (xs : List Value) (zs : List Int), m ≤ L.length ∧ xs.length ≤ m ∧ Hid (L.length < m + f) ∧ Hid (RdAt wr b L m len dp) ∧ Hid (Only (Mine b) w wr) ∧ Hid (wr.ownsRow w.heap.size 66 1 sv xs.length xs) ∧ Hid (Sizes F wr (Apart w.heap.size sv) xs zs) ∧ Hid (Pro.altP L len D n = Pro.altO L len D f zs m)) (fun _ wr => L.length - rdN wr b)
  case atStart => exact ⟨n, L.length + 1 - n, 0, [], [], hn, by simp, (by show _ < _; omega), h, Only.refl _ _, World.ownsRow_nil _ _ _ _, ⟨rfl, fun j x z hx => by simp at hx⟩, rfl⟩
  case round =>
    obtain ⟨m, f, F, xs, zs, hm, hxl, hf, HR, HO, Hown, Hsz, HF⟩ := hrel
    obtain ⟨f, rfl⟩ : ∃ f', f = f' + 1 := ⟨f - 1, by have := unhide hf; omega⟩
    have hrd := (Trk.start (unhide HR) ((unhide HS).mine (unhide HO) hb) hb).rdN
    have hin := Pro.termsP_in (len := len) (unhide HD) m hm
    by_cases hk : (Pro.termsP L len D m).k = 0
    · obtain ⟨sa, sn, sc, rfl⟩ := own_slice (unhide Hown)
      have hzl := (unhide Hsz).1
      by_cases hbar : Pro.letAt L (Pro.termsP L len D m).n = 124
      · have m1 : Pro.matchB L (Pro.termsP L len D m).n { data := #[124] } = true := by rw [Pro.matchB_one L _ 124 124 rfl]; simp [hbar]
        have hlt2 := Pro.letAt_in' (L := L) (n := (Pro.termsP L len D m).n) (by omega)
        have HO1 : Hid (Pro.altP L len D n = Pro.altO L len D f (zs ++ [(Pro.termsP L len D m).v]) ((Pro.termsP L len D m).n + 1)) := by rw [unhide HF]; simp only [Pro.altO]; rw [if_neg (by simp [hk]), if_pos hbar]; rfl
        clear hbar
        go_wp2_with (first
          | (go_at_call 70; refine (terms_any b L m len dp a D _ (unhide HR) ((unhide HS).mine (unhide HO) hb) hb hL hm hF (unhide HG) (unhide HD)).mono ?_; intro e w3 hg; obtain ⟨T3, y3, F3, rfl, hs3, hO3, hR3⟩ := gives_yes hg hk; have Hs3 := hide hs3; have HO3 := hide hO3; have HR3 := hide hR3; have hsz3 := hO3.size; have Hown3 := hide (ownsRow_keep (unhide Hown) hO3 (fun g hg e => by unfold Mine at e; have := (ownsRow_block (unhide Hown) g hg).1; omega)); clear hg hs3 hO3 hR3)
          | (at_builtin; refine append_sep _ rfl _ _ 120 rfl w.heap.size 66 i0 .nilIface 1 16 Tryz.underlying120 hi hz0 hz1 hz2 rfl (by decide) _ _ xs rfl (World.ownsRow.alloc (unhide Hown3) _) _ 1 1 [.iface T3 y3] rfl rfl (cell_one_new _ _ _) (fun x hx => by simp at hx; subst hx; rfl) (by unfold maxLen; omega) (by omega) (by simp; have := (unhide HO).size; omega) ?_; intro v' w4 hown' hgrow hsep; have hG4 := alt_grow hlt hb (unhide HS) (unhide HO) (unhide Hown) (unhide Hsz) (unhide HO3) (unhide HR3) (unhide Hs3) ((Only.refl _ _).alloc _) hgrow hsep; obtain ⟨hO4, hR4, hsz4⟩ := hG4; have T := hide (Trk.start hR4 ((unhide HS).mine hO4 hb) hb); have HO4 := hide hO4; have Hsz4 := hide hsz4; have Hown4 := hide hown'; clear hown' hgrow hsep hO4 hR4 hsz4)
          | (go_at_call 71; refine (take_t (n := (Pro.termsP L len D m).n) _ (by first | exact unhide T | exact (unhide T).drewN _ | exact ((unhide T).drewN _).drewN _ | exact (unhide T).setN _ _ (by omega) | exact ((unhide T).drewN _).setN _ _ (by omega) | exact ((unhide T).setN _ _ (by omega)).drewN _ | exact (((unhide T).drewN _).setN _ _ (by omega)).drewN _) hL (by omega) (by decide) (by assumption)).mono ?_; rintro e wq ⟨rfl, tq⟩; have tq : Trk _ _ b L (((Pro.termsP L len D m).n) + 1) len dp a wq := tq; have T := hide tq; have c1 := tq.c1; have f1 := tq.f1))
        have hk4 := Own.to (unhide T).on
        have hown5 : wq.ownsRow w.heap.size 66 1 v' (xs.length + 1) (xs ++ [.iface T3 y3]) := ownsRow_keep (unhide Hown4) hk4 (fun g hg e => by unfold Mine at e; have := (ownsRow_block (unhide Hown4) g hg).1; omega)
        exact ⟨⟨(Pro.termsP L len D m).n + 1, f, max F F3, xs ++ [Value.iface T3 y3], zs ++ [(Pro.termsP L len D m).v], by omega, by simp; omega, (by have := unhide hf; show _ < _; omega), (unhide T).rd, (unhide HO4).trans hk4, (by show World.ownsRow _ _ _ _ _ _ _; rw [List.length_append]; exact hown5), hide ((unhide Hsz4).keep hk4 (fun g hg e => by unfold Mine at e; have := hg.1; omega)), HO1⟩, by rw [(unhide T).rdN, hrd]; omega⟩
      · have m1 : Pro.matchB L (Pro.termsP L len D m).n { data := #[124] } = false := by rw [Pro.matchB_one L _ 124 124 rfl]; simp [hbar]
        have HO1 : Hid (Pro.altP L len D n = Pro.good (min (Pro.sumS 0 (zs ++ [(Pro.termsP L len D m).v]) + ((zs.length : Int) + 1) - 1) 301) (Pro.termsP L len D m).n) := by rw [unhide HF]; simp only [Pro.altO]; rw [if_neg (by simp [hk]), if_neg hbar]; rfl
        clear hbar
        go_wp2_with (first
          | (go_at_call 70; refine (terms_any b L m len dp a D _ (unhide HR) ((unhide HS).mine (unhide HO) hb) hb hL hm hF (unhide HG) (unhide HD)).mono ?_; intro e w3 hg; obtain ⟨T3, y3, F3, rfl, hs3, hO3, hR3⟩ := gives_yes hg hk; have Hs3 := hide hs3; have HO3 := hide hO3; have HR3 := hide hR3; have hsz3 := hO3.size; have Hown3 := hide (ownsRow_keep (unhide Hown) hO3 (fun g hg e => by unfold Mine at e; have := (ownsRow_block (unhide Hown) g hg).1; omega)); clear hg hs3 hO3 hR3)
          | (at_builtin; refine append_sep _ rfl _ _ 120 rfl w.heap.size 66 i0 .nilIface 1 16 Tryz.underlying120 hi hz0 hz1 hz2 rfl (by decide) _ _ xs rfl (World.ownsRow.alloc (unhide Hown3) _) _ 1 1 [.iface T3 y3] rfl rfl (cell_one_new _ _ _) (fun x hx => by simp at hx; subst hx; rfl) (by unfold maxLen; omega) (by omega) (by simp; have := (unhide HO).size; omega) ?_; intro v' w4 hown' hgrow hsep; have hG4 := alt_grow hlt hb (unhide HS) (unhide HO) (unhide Hown) (unhide Hsz) (unhide HO3) (unhide HR3) (unhide Hs3) ((Only.refl _ _).alloc _) hgrow hsep; obtain ⟨hO4, hR4, hsz4⟩ := hG4; have T := hide (Trk.start hR4 ((unhide HS).mine hO4 hb) hb); have HO4 := hide hO4; have Hsz4 := hide hsz4; have Hown4 := hide hown'; clear hown' hgrow hsep hO4 hR4 hsz4)
          | (go_at_call 71; refine (takeno_t (n := (Pro.termsP L len D m).n) _ (by first | exact unhide T | exact (unhide T).drewN _ | exact ((unhide T).drewN _).drewN _ | exact (unhide T).setN _ _ (by omega) | exact ((unhide T).drewN _).setN _ _ (by omega) | exact ((unhide T).setN _ _ (by omega)).drewN _ | exact (((unhide T).drewN _).setN _ _ (by omega)).drewN _) hL (by omega) (by decide) (by assumption)).mono ?_; rintro e wq ⟨rfl, qq, rfl⟩))
        go_ret2
        have hsz := (unhide Hsz4).mono (B := fun g => w.heap.size ≤ g) (fun g _ hg => hg.1)
        have hown5 : w4.ownsRow w.heap.size 66 1 v' (xs ++ [Value.iface T3 y3]).length (xs ++ [Value.iface T3 y3]) := by rw [List.length_append]; exact unhide Hown4
        refine Gives.good (F := max F F3 + 1) (unhide HO1) ((unhide HO4).drewN _) ((unhide T).rd.drewN _) ?_
        exact .inr (.inl ⟨_, xs ++ [.iface T3 y3], zs ++ [(Pro.termsP L len D m).v], rfl, (row_of hown5).keep ((Only.refl (fun _ => False) _).drewN _) (fun _ _ f => f), by simp; omega, hsz.1, fun j x z' hx hz => SizeAt.keep ((Only.refl (fun _ => False) _).drewN _) (fun _ _ f => f) _ x z' (hsz.2 j x z' hx hz), by simp, by rw [List.length_append, hzl]; simp⟩)
    · have HO1 : Hid (Pro.altP L len D n = Pro.termsP L len D m) := by rw [unhide HF]; simp only [Pro.altO]; rw [if_pos hk]; rfl
      go_wp2_with (first
        | (go_at_call 70; refine (terms_any b L m len dp a D _ (unhide HR) ((unhide HS).mine (unhide HO) hb) hb hL hm hF (unhide HG) (unhide HD)).mono ?_; intro e w3 hg; obtain ⟨g3, rfl, hv3, hO3, hR3⟩ := gives_no hg hk; have Hv3 := hide hv3; have HO3 := hide hO3; have HR3 := hide hR3; clear hg hv3 hO3 hR3))
      go_ret2
      rw [unhide HO1]
      exact ⟨(unhide HO).trans (unhide HO3), unhide HR3, .inr ⟨hk, _, rfl, (unhide Hv3).base (unhide HO).size⟩⟩
end Go.Proofs.YtdhmllobgijggaaGreatDoor
namespace Go.Proofs.YtdhmllobgijggaaGreatDoor
open Go.RowKit

theorem RdAt.setD {w : World} {b : Nat} {L : List (Int × Int)} {n : Nat} {len dp : Int} (h : RdAt w b L n len dp) (j : Int) : RdAt (w.setCell ⟨b, 3, none⟩ (.int .i64 j)) b L n len j := by
  obtain ⟨c0, c1, c2, c3, f1, f3⟩ := h
  refine ⟨?_, (World.cell?_setCell_other _ _ _ _ (by simp)).trans c1, (World.cell?_setCell_other _ _ _ _ (by simp)).trans c2, World.cell?_setCell_same _ _ _ c3, (frozen_setCell _ _ _ _).trans f1, (frozen_setCell _ _ _ _).trans f3⟩
  rcases c0 with ⟨g, cap, c0, hcap, hne, hrow⟩ | ⟨rfl, c0⟩
  · exact .inl ⟨g, cap, (World.cell?_setCell_other _ _ _ _ (by simp)).trans c0, hcap, hne, hrow.keep ((Only.refl (Mine b) w).mine 3 _) (by unfold Mine; omega)⟩
  · exact .inr ⟨rfl, (World.cell?_setCell_other _ _ _ _ (by simp)).trans c0⟩

theorem size_close {b F : Nat} {w w1 w2 w3 : World} {v : Value} {z : Int} (hlt : b < w.heap.size) (h1 : Only (Mine b) w w1) (hs : SizeAt F w2 (fun g => w1.heap.size ≤ g) v z) (h3 : Only (Mine b) w2 w3) : SizeAt F w3 (fun g => w.heap.size ≤ g) v z :=
  SizeAt.keep h3 (A := fun g => w.heap.size ≤ g) (fun g hg e => by unfold Mine at e; subst e; exact absurd hlt (Nat.not_lt.2 hg)) F v z (SizeAt.mono (fun g _ hg => Nat.le_trans h1.size hg) F v z hs)

set_option maxHeartbeats 4000000 in
set_option maxRecDepth 1000000 in
theorem group_deep (b : Nat) (L : List (Int × Int)) (len : Int) (a : Nat → Addr) (hb : 10 ≤ b) (hL : L.length ≤ 400) : GroupOK b L len 10 a (Pro.deepO L len 0) := by
  intro n w h hS hn
  have T := hide (Trk.start h hS hb)
  have c3 := h.c3
  have hs7 := hS.s7
  clear h hS
  go_enter Tryz.func114, Tryz.ntmps114
  go_wp2_with fail
  go_region_with (first
    | (go_at_call 72; refine (place_t (n := n) (by first | exact unhide T | exact (unhide T).drewN _ | exact ((unhide T).drewN _).drewN _ | exact (unhide T).setN _ _ (by omega) | exact ((unhide T).drewN _).setN _ _ (by omega) | exact ((unhide T).setN _ _ (by omega)).drewN _ | exact (((unhide T).drewN _).setN _ _ (by omega)).drewN _) hL (by omega)).mono ?_; rintro e w1 ⟨rfl, q, rfl⟩)
    | (go_at_call 46; refine (new_t (n := n) _ 7 _ _ rfl (by first | exact unhide T | exact (unhide T).drewN _ | exact ((unhide T).drewN _).drewN _ | exact (unhide T).setN _ _ (by omega) | exact ((unhide T).drewN _).setN _ _ (by omega) | exact ((unhide T).setN _ _ (by omega)).drewN _ | exact (((unhide T).drewN _).setN _ _ (by omega)).drewN _)).mono ?_; rintro e w1 ⟨v, rfl, hv, tq⟩))
  all_goals go_wp2_with fail
  all_goals
    go_ret2
    exact Gives.bad rfl (show (7 : Nat) ≠ 0 by decide) (Own.to tq.on) tq.rd hv

set_option maxHeartbeats 4000000 in
set_option maxRecDepth 1000000 in
theorem group_step (b : Nat) (L : List (Int × Int)) (len dp : Int) (a : Nat → Addr) (r : Nat) (hb : 10 ≤ b) (hL : L.length ≤ 400) (h0 : 0 ≤ dp) (h1 : dp < 10)
    (hA : ∀ (n : Nat) (w : World), RdAt w b L n len (dp + 1) → Sents w a → n ≤ L.length → Calls Tryz.prog 48 #[.pointer (some ⟨b, 0, none⟩)] w (Gives b L len (dp + 1) a w (Pro.altP L len (Pro.deepO L len r) n))) : GroupOK b L len dp a (Pro.deepO L len (r + 1)) := by
  intro n w h hS hn
  have hlt := h.lt
  have HR := hide h
  have HS := hide hS
  have HA := hide hA
  have c3 := h.c3
  have hd : (dp == 10) = false := by simp; omega
  clear h hS hA
  have ho := Pro.openO_in (L := L) (len := len) n hn
  have ha := Pro.altP_in (len := len) (Pro.deepO_in (L := L) (len := len) r) (Pro.openO L len n).n ho.2
  by_cases hk1 : (Pro.openO L len n).k = 0
  · by_cases hk2 : (Pro.altP L len (Pro.deepO L len r) (Pro.openO L len n).n).k = 0
    · by_cases hc : Pro.letAt L (Pro.altP L len (Pro.deepO L len r) (Pro.openO L len n).n).n = 41
      · have m1 : Pro.matchB L (Pro.altP L len (Pro.deepO L len r) (Pro.openO L len n).n).n { data := #[41] } = true := by rw [Pro.matchB_one L _ 41 41 rfl]; simp [hc]
        have HO : Hid (Pro.deepO L len (r + 1) n = Pro.good (Pro.altP L len (Pro.deepO L len r) (Pro.openO L len n).n).v ((Pro.altP L len (Pro.deepO L len r) (Pro.openO L len n).n).n + 1)) := by simp only [Pro.deepO]; unfold Pro.groupO; rw [if_neg (by simp [hk1]), if_neg (by simp [hk2]), if_pos hc]; rfl
        clear hc
        go_enter Tryz.func114, Tryz.ntmps114
        go_wp2_with (first
          | (go_at_call 121; refine (opening_any b L n len dp a _ (unhide HR) (unhide HS) hb hL hn).mono ?_; rintro e w1 ⟨tq, hT⟩; obtain ⟨rfl, _⟩ := adds_yes hT hk1; clear hT; have T1 := hide tq; have c31 := tq.rd.c3; have f31 := tq.rd.f3; clear tq)
          | (go_at_call 48; refine (unhide HA (Pro.openO L len n).n _ ((unhide T1).rd.setD _) ((unhide T1).se.mine ((Only.refl _ _).mine _ _) hb) ho.2).mono ?_; intro e w2 hg; obtain ⟨T2, y2, F2, rfl, hs2, hO2, hR2⟩ := gives_yes hg hk2; have Hs2 := hide hs2; have HO2 := hide hO2; have HR2 := hide hR2; have c32 := hR2.c3; have f32 := hR2.f3; clear hg hs2 hO2 hR2)
          | (go_at_call 71; refine (take_yes b L (Pro.altP L len (Pro.deepO L len r) (Pro.openO L len n).n).n len dp _ _ ((unhide HR2).setD _) hL (by omega) (by decide) (by assumption)).mono ?_; rintro e w3 ⟨rfl, hR3, hO3⟩; have HR3 := hide hR3; have HO3 := hide hO3; clear hR3 hO3))
        go_ret2
        have hA1 : Only (Mine b) w (w1.setCell ⟨b, 3, none⟩ (.int .i64 (dp + 1))) := (Own.to (unhide T1).on).mine _ _
        have hA2 : Only (Mine b) w2 w3 := ((Only.refl (Mine b) w2).mine 3 _).trans (unhide HO3)
        exact Gives.good (unhide HO) ((hA1.trans (unhide HO2)).trans hA2) (unhide HR3) (size_close hlt hA1 (unhide Hs2) hA2)
      · have m1 : Pro.matchB L (Pro.altP L len (Pro.deepO L len r) (Pro.openO L len n).n).n { data := #[41] } = false := by rw [Pro.matchB_one L _ 41 41 rfl]; simp [hc]
        have HO : Hid (Pro.deepO L len (r + 1) n = Pro.bad 3 (Pro.placeAt L len (Pro.altP L len (Pro.deepO L len r) (Pro.openO L len n).n).n) (Pro.altP L len (Pro.deepO L len r) (Pro.openO L len n).n).n) := by simp only [Pro.deepO]; unfold Pro.groupO; rw [if_neg (by simp [hk1]), if_neg (by simp [hk2]), if_neg hc]; rfl
        clear hc
        go_enter Tryz.func114, Tryz.ntmps114
        go_wp2_with (first
          | (go_at_call 121; refine (opening_any b L n len dp a _ (unhide HR) (unhide HS) hb hL hn).mono ?_; rintro e w1 ⟨tq, hT⟩; obtain ⟨rfl, _⟩ := adds_yes hT hk1; clear hT; have T1 := hide tq; have c31 := tq.rd.c3; have f31 := tq.rd.f3; clear tq)
          | (go_at_call 48; refine (unhide HA (Pro.openO L len n).n _ ((unhide T1).rd.setD _) ((unhide T1).se.mine ((Only.refl _ _).mine _ _) hb) ho.2).mono ?_; intro e w2 hg; obtain ⟨T2, y2, F2, rfl, hs2, hO2, hR2⟩ := gives_yes hg hk2; have Hs2 := hide hs2; have HO2 := hide hO2; have HR2 := hide hR2; have c32 := hR2.c3; have f32 := hR2.f3; clear hg hs2 hO2 hR2); (have T := hide (Trk.start ((unhide HR2).setD dp) (((unhide HS).mine (((Own.to (unhide T1).on).mine 3 _).trans (unhide HO2)) hb).mine ((Only.refl _ _).mine 3 _) hb) hb))
          | (go_at_call 71; refine (takeno_t (n := (Pro.altP L len (Pro.deepO L len r) (Pro.openO L len n).n).n) _ (by first | exact unhide T | exact (unhide T).drewN _ | exact ((unhide T).drewN _).drewN _ | exact (unhide T).setN _ _ (by omega) | exact ((unhide T).drewN _).setN _ _ (by omega) | exact ((unhide T).setN _ _ (by omega)).drewN _ | exact (((unhide T).drewN _).setN _ _ (by omega)).drewN _) hL (by omega) (by decide) (by assumption)).mono ?_; rintro e wq ⟨rfl, qq, rfl⟩)
          | (go_at_call 50; refine (wrong_t (n := (Pro.altP L len (Pro.deepO L len r) (Pro.openO L len n).n).n) (by first | exact unhide T | exact (unhide T).drewN _ | exact ((unhide T).drewN _).drewN _ | exact (unhide T).setN _ _ (by omega) | exact ((unhide T).drewN _).setN _ _ (by omega) | exact ((unhide T).setN _ _ (by omega)).drewN _ | exact (((unhide T).drewN _).setN _ _ (by omega)).drewN _) hL (by omega)).mono ?_; rintro e wq ⟨v, rfl, hv, tq⟩; have T := hide tq; have c1 := tq.c1; have f1 := tq.f1))
        go_ret2
        have hA1 : Only (Mine b) w (w1.setCell ⟨b, 3, none⟩ (.int .i64 (dp + 1))) := (Own.to (unhide T1).on).mine _ _
        have hA2 := (hA1.trans (unhide HO2)).mine 3 (.int .i64 dp)
        exact Gives.bad (unhide HO) (by decide) (hA2.trans (Own.to (unhide T).on)) (unhide T).rd (hv.base hA2.size)
    · have HO : Hid (Pro.deepO L len (r + 1) n = (Pro.altP L len (Pro.deepO L len r) (Pro.openO L len n).n)) := by simp only [Pro.deepO]; unfold Pro.groupO; rw [if_neg (by simp [hk1]), if_pos hk2]; rfl
      go_enter Tryz.func114, Tryz.ntmps114
      go_wp2_with (first
        | (go_at_call 121; refine (opening_any b L n len dp a _ (unhide HR) (unhide HS) hb hL hn).mono ?_; rintro e w1 ⟨tq, hT⟩; obtain ⟨rfl, _⟩ := adds_yes hT hk1; clear hT; have T1 := hide tq; have c31 := tq.rd.c3; have f31 := tq.rd.f3; clear tq)
        | (go_at_call 48; refine (unhide HA (Pro.openO L len n).n _ ((unhide T1).rd.setD _) ((unhide T1).se.mine ((Only.refl _ _).mine _ _) hb) ho.2).mono ?_; intro e w2 hg; obtain ⟨g2, rfl, hv2, hO2, hR2⟩ := gives_no hg hk2; have Hv2 := hide hv2; have HO2 := hide hO2; have HR2 := hide hR2; have c32 := hR2.c3; have f32 := hR2.f3; clear hg hv2 hO2 hR2))
      go_ret2
      have hA1 : Only (Mine b) w (w1.setCell ⟨b, 3, none⟩ (.int .i64 (dp + 1))) := (Own.to (unhide T1).on).mine _ _
      rw [unhide HO]
      exact ⟨(hA1.trans (unhide HO2)).mine 3 _, (unhide HR2).setD dp, .inr ⟨hk2, _, rfl, ((unhide Hv2).base hA1.size).keep ((Only.refl (Mine b) _).mine 3 _) (fun g hg e => by unfold Mine at e; omega)⟩⟩
  · have HO : Hid (Pro.deepO L len (r + 1) n = Pro.openO L len n) := by simp only [Pro.deepO]; unfold Pro.groupO; rw [if_pos hk1]; rfl
    go_enter Tryz.func114, Tryz.ntmps114
    go_wp2_with (go_at_call 121; refine (opening_any b L n len dp a _ (unhide HR) (unhide HS) hb hL hn).mono ?_; rintro e w1 ⟨tq, hT⟩; obtain ⟨v, rfl, hv⟩ := adds_no hT hk1; clear hT; obtain ⟨gv, hgv⟩ := hv.form; subst hgv; have T1 := hide tq; clear tq)
    go_ret2
    rw [unhide HO]
    exact ⟨Own.to (unhide T1).on, (unhide T1).rd, .inr ⟨hk1, _, rfl, hv⟩⟩

/-- Groups, and alternatives, at every depth. -/
theorem group_all (b : Nat) (L : List (Int × Int)) (len : Int) (a : Nat → Addr) (hb : 10 ≤ b) (hL : L.length ≤ 400) (hF : Pro.Fit L) : ∀ r : Nat, r ≤ 10 → GroupOK b L len ((10 : Int) - r) a (Pro.deepO L len r)
  | 0, _ => group_deep b L len a hb hL
  | r + 1, hr => by
    have hG := group_all b L len a hb hL hF r (by omega)
    refine group_step b L len _ a r hb hL (by omega) (by omega) ?_
    rw [show ((10 : Int) - ((r + 1 : Nat) : Int)) + 1 = (10 : Int) - r by omega]
    intro n w h hS hn
    exact alternatives_any b L n len _ a (Pro.deepO L len r) w h hS hb hL hn hF hG (Pro.deepO_in r)
theorem alternatives_top (b : Nat) (L : List (Int × Int)) (n : Nat) (len : Int) (a : Nat → Addr) (w : World) (h : RdAt w b L n len 0) (hS : Sents w a) (hb : 10 ≤ b) (hL : L.length ≤ 400) (hn : n ≤ L.length) (hF : Pro.Fit L) :
    Calls Tryz.prog 48 #[.pointer (some ⟨b, 0, none⟩)] w (Gives b L len 0 a w (Pro.altP L len (Pro.deepO L len 10) n)) :=
  alternatives_any b L n len 0 a (Pro.deepO L len 10) w h hS hb hL hn hF (group_all b L len a hb hL hF 10 (by omega)) (Pro.deepO_in 10)
end Go.Proofs.YtdhmllobgijggaaGreatDoor
