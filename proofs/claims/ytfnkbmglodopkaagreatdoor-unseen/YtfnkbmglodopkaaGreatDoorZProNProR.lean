/- The program's classes: a member read into one. The plain reader stays within its letters. The program's classes. The program's counts: one number. The program's counts between braces. The program's counts between braces, read. The program's quantifiers. -/
import Derived.Test.YtfnkbmglodopkaaGreatDoorZProJ2ProM
namespace Go.Proofs.YtfnkbmglodopkaaGreatDoor
section
open Go.RowKit
set_option maxHeartbeats 4000000
set_option maxRecDepth 1000000
namespace Pro
def addR (L : List (Int × Int)) (len : Int) (n : Nat) (R : List (Int × Int)) : List (Int × Int) :=
 if dashB L (memberO L len n).n = true then R ++ [((memberO L len n).v, (memberO L len ((memberO L len n).n + 1)).v)]
 else if many L n = true then R else R ++ [((memberO L len n).v, (memberO L len n).v)]
def addS (L : List (Int × Int)) (len : Int) (n : Nat) (S : List Int) : List Int :=
 if dashB L (memberO L len n).n = true then S else if many L n = true then S ++ [(memberO L len n).v] else S
end Pro
theorem adds_ret {A B C : Prop} {D : Value → Prop} {x : Ending} (h : (A ∧ x = .returned .nilIface ∧ B) ∨ (C ∧ ∃ v, x = .returned v ∧ D v)) : ∃ v, x = .returned v := by
 rcases h with ⟨_, h, _⟩ | ⟨_, v, h, _⟩
 · exact ⟨_, h⟩
 · exact ⟨v, h⟩
theorem addMember_any (b : Nat) (L : List (Int × Int)) (n : Nat) (len dp : Int) (a : Nat → Addr) (cb : Nat) (w0 w : World) (neg : Bool) (R : List (Int × Int)) (S : List Int) (v1 v2 : Value) (t : Trk cb w0 b L n len dp a w) (hC : ClassAt w cb neg R S v1 v2) (hL : L.length ≤ 400) (hn : n < L.length) (hnm : (Pro.memberO L len n).n ≤ 450) (hF : Pro.Fit L) (hR : R.length ≤ 400) (hS : S.length ≤ 400) :
   Calls Tryz.prog 255 #[.pointer (some ⟨b, 0, none⟩), .pointer (some ⟨cb, 0, none⟩)] w (Adds b L len dp a cb w0 (Pro.addO L len n) neg (Pro.addR L len n R) (Pro.addS L len n S)) := by
 obtain ⟨i0, hi, hz0, hz1, hz2⟩ := info_parts Tryz.infoRange
 obtain ⟨j0, hj, hy0, hy1, hy2⟩ := info_parts Tryz.infoShort
 have T0 := hide t
 have T := hide (Trk.start t.rd t.se t.hb)
 have hsz := t.on.size
 have hbc := t.lt
 have HC := hide hC
 by_cases hk : (Pro.memberO L len n).k = 0
 · cases hd : Pro.dashB L (Pro.memberO L len n).n
   · have HO : Hid (Pro.addO L len n = Pro.memberO L len n) := by unfold Pro.addO; rw [if_neg (by simp [hk]), if_neg (by simp [hd])]; rfl
     have a1 := Tryz.isChar
     have a2 := Tryz.notChar
     have a3 := Tryz.isMany
     clear t hC
     cases hm : Pro.many L n
     · have HR : Hid (Pro.addR L len n R = R ++ [((Pro.memberO L len n).v, (Pro.memberO L len n).v)]) := by unfold Pro.addR; rw [hd, hm]; rfl
       have HSS : Hid (Pro.addS L len n S = S) := by unfold Pro.addS; rw [hd, hm]; rfl
       have hv2 : oneV false (Pro.memberO L len n).v = .iface 206 (.int .i32 (Pro.memberO L len n).v) := rfl
       go_enter Tryz.func255, Tryz.ntmps255
       go_wp2_with (first | (go_at_call 288; refine (tells_t (n := n) (by exact unhide T) (pmember_any b L n len dp a _ (Trk.rd (n := n) (by exact unhide T)) (Trk.se (n := n) (by exact unhide T)) (unhide T).hb hL (by omega) hF)).mono ?_; rintro e wq ⟨tq, hT⟩; obtain rfl := told_yes hT hk; clear hT; have T := hide tq; have c1 := tq.c1; have f1 := tq.f1); (have hC1 := (unhide HC).step hbc (unhide T)); (have k1 := hC1.k1); (have k2 := hC1.k2); (have q1 := hC1.f1); (have q2 := hC1.f2); (have ho1 := hC1.o1); (have ho2 := hC1.o2); (obtain ⟨sa, sn, sc, rfl⟩ := own_slice ho1); (obtain ⟨ua, un, uc, rfl⟩ := own_slice ho2); (have hlc := hC1.lt); (have HC1 := hide hC1); (clear hC1); (have Ho1 := hide ho1); (clear ho1); (have Ho2 := hide ho2); (clear ho2) | (go_at_call 289; refine (isRange_any b L (Pro.memberO L len n).n len dp a _ _ _ (by exact unhide T) hL (by omega)).mono ?_; rintro e wq ⟨rfl, hwq⟩; have hwr := hwq.symm; subst hwr; clear hwq) | (at_builtin; refine wpList_append_own _ rfl _ _ 208 rfl (cb + 1) 364 i0 (.agg #[.int .i32 0, .int .i32 0]) 2 8 Tryz.underlying208 hi hz0 hz1 hz2 rfl (by decide) _ _ _ rfl (World.ownsRow.alloc (unhide Ho1) _) _ 1 1 [.int .i32 (Pro.memberO L len n).v, .int .i32 (Pro.memberO L len n).v] rfl rfl (cell_two_new _ _ _ _) (fun x hx => by simp at hx; rcases hx with rfl | rfl <;> rfl) (by unfold maxLen; omega) (by omega) (by simp; omega) ?_; intro v' w8 hown' hgrow hnil; obtain ⟨pa, pn, pc, rfl⟩ := own_slice hown'; have hcs8 := (unhide HC1).cells ((Only.refl _ _).alloc _) hgrow (unhide HC1).n1; have HP := hide ((unhide HC1).push1 ((Only.refl _ _).alloc _) (World.ownsRow.alloc (unhide Ho1) _) hgrow hown'); clear hown' hgrow hnil; obtain ⟨z1, z2, z3, z4⟩ := hcs8))
       go_ret
       rw [unhide HO, unhide HR, unhide HSS]
       exact ⟨((unhide T0).join (unhide T)).push (unhide HP).2, .inl ⟨hk, rfl, _, _, (unhide HP).1⟩⟩
     · have HR : Hid (Pro.addR L len n R = R) := by unfold Pro.addR; rw [hd, hm]; rfl
       have HSS : Hid (Pro.addS L len n S = S ++ [(Pro.memberO L len n).v]) := by unfold Pro.addS; rw [hd, hm]; rfl
       have hv2 : oneV true (Pro.memberO L len n).v = .iface 207 (.int .i32 (Pro.memberO L len n).v) := rfl
       go_enter Tryz.func255, Tryz.ntmps255
       go_wp2_with (first | (go_at_call 288; refine (tells_t (n := n) (by exact unhide T) (pmember_any b L n len dp a _ (Trk.rd (n := n) (by exact unhide T)) (Trk.se (n := n) (by exact unhide T)) (unhide T).hb hL (by omega) hF)).mono ?_; rintro e wq ⟨tq, hT⟩; obtain rfl := told_yes hT hk; clear hT; have T := hide tq; have c1 := tq.c1; have f1 := tq.f1); (have hC1 := (unhide HC).step hbc (unhide T)); (have k1 := hC1.k1); (have k2 := hC1.k2); (have q1 := hC1.f1); (have q2 := hC1.f2); (have ho1 := hC1.o1); (have ho2 := hC1.o2); (obtain ⟨sa, sn, sc, rfl⟩ := own_slice ho1); (obtain ⟨ua, un, uc, rfl⟩ := own_slice ho2); (have hlc := hC1.lt); (have HC1 := hide hC1); (clear hC1); (have Ho1 := hide ho1); (clear ho1); (have Ho2 := hide ho2); (clear ho2) | (go_at_call 289; refine (isRange_any b L (Pro.memberO L len n).n len dp a _ _ _ (by exact unhide T) hL (by omega)).mono ?_; rintro e wq ⟨rfl, hwq⟩; have hwr := hwq.symm; subst hwr; clear hwq) | (at_builtin; refine wpList_append_own _ rfl _ _ 209 rfl (cb + 1) 207 j0 (.int .i32 0) 1 4 Tryz.underlying209 hj hy0 hy1 hy2 rfl (by decide) _ _ _ rfl (World.ownsRow.alloc (unhide Ho2) _) _ 1 1 [.int .i32 (Pro.memberO L len n).v] rfl rfl (cell_one_new _ _ _) (fun x hx => by simp at hx; subst hx; rfl) (by unfold maxLen; omega) (by omega) (by simp; omega) ?_; intro v' w8 hown' hgrow hnil; obtain ⟨pa, pn, pc, rfl⟩ := own_slice hown'; have hcs8 := (unhide HC1).cells ((Only.refl _ _).alloc _) hgrow (unhide HC1).n2; have HP := hide ((unhide HC1).push2 ((Only.refl _ _).alloc _) (World.ownsRow.alloc (unhide Ho2) _) hgrow hown'); clear hown' hgrow hnil; obtain ⟨z1, z2, z3, z4⟩ := hcs8))
       go_ret
       rw [unhide HO, unhide HR, unhide HSS]
       exact ⟨((unhide T0).join (unhide T)).push (unhide HP).2, .inl ⟨hk, rfl, _, _, (unhide HP).1⟩⟩
   · have HO : Hid (Pro.addO L len n = Pro.rangeO L len (Pro.many L n) (Pro.memberO L len n).v (Pro.memberO L len n).n) := by unfold Pro.addO; rw [if_neg (by simp [hk]), if_pos hd]; rfl
     have HR : Hid (Pro.addR L len n R = R ++ [((Pro.memberO L len n).v, (Pro.memberO L len ((Pro.memberO L len n).n + 1)).v)]) := by unfold Pro.addR; rw [hd]; rfl
     have HSS : Hid (Pro.addS L len n S = S) := by unfold Pro.addS; rw [hd]; rfl
     clear t hC
     go_enter Tryz.func255, Tryz.ntmps255
     go_wp2_with (first | (go_at_call 288; refine (tells_t (n := n) (by exact unhide T) (pmember_any b L n len dp a _ (Trk.rd (n := n) (by exact unhide T)) (Trk.se (n := n) (by exact unhide T)) (unhide T).hb hL (by omega) hF)).mono ?_; rintro e wq ⟨tq, hT⟩; obtain rfl := told_yes hT hk; clear hT; have T := hide tq; have c1 := tq.c1; have f1 := tq.f1) | (go_at_call 289; refine (isRange_any b L (Pro.memberO L len n).n len dp a _ _ _ (by exact unhide T) hL (by omega)).mono ?_; rintro e wq ⟨rfl, hwq⟩; have hwr := hwq.symm; subst hwr; clear hwq) | (go_at_call 290; refine (addRange_any b L (Pro.memberO L len n).n len dp a cb w0 _ neg R S _ _ (Pro.many L n) (Pro.memberO L len n).v ((unhide T0).join (unhide T)) ((unhide HC).step hbc (unhide T)) hL hd hF hR).mono ?_; intro e w9 HA; have HAA := hide HA; obtain ⟨_, hA⟩ := HA; obtain ⟨xv, rfl⟩ := adds_ret hA; clear hA))
     go_ret
     rw [unhide HO, unhide HR, unhide HSS]
     exact unhide HAA
 · have HO : Hid (Pro.addO L len n = Pro.memberO L len n) := by unfold Pro.addO; rw [if_pos hk]; rfl
   clear t hC
   go_enter Tryz.func255, Tryz.ntmps255
   go_wp2_with (go_at_call 288; refine (tells_t (n := n) (by exact unhide T) (pmember_any b L n len dp a _ (Trk.rd (n := n) (by exact unhide T)) (Trk.se (n := n) (by exact unhide T)) (unhide T).hb hL (by omega) hF)).mono ?_; rintro e wq ⟨tq, hT⟩; obtain ⟨v, rfl, hv⟩ := told_no hT hk; obtain ⟨gv, hgv⟩ := hv.form; subst hgv; clear hT; have T := hide tq; have c1 := tq.c1; have f1 := tq.f1)
   go_ret
   rw [unhide HO]
   exact ⟨(unhide T0).join (unhide T), .inr ⟨hk, _, rfl, hv.base hsz⟩⟩
namespace Pro
section
variable {L : List (Int × Int)} {len : Int}
theorem zeroO_in (n : Nat) (h : n ≤ L.length) : n ≤ (zeroO L len n).n ∧ (zeroO L len n).n ≤ L.length := by rw [zeroO_n]; omega
theorem controlO_in (n : Nat) (h : n ≤ L.length) : n ≤ (controlO L len n).n ∧ (controlO L len n).n ≤ L.length := by
 unfold controlO
 split
 · rename_i hl
   have : n < L.length := letAt_in' (by unfold letter at hl; omega)
   simp only [good]; omega
 · simp only [bad]; omega
theorem bracedO_in : ∀ (f : Nat) (c : Int) (d n : Nat), n ≤ L.length → n ≤ (bracedO L len f c d n).n ∧ (bracedO L len f c d n).n ≤ L.length
 | 0, c, d, n, h => by simp only [bracedO, good]; omega
 | f + 1, c, d, n, h => by
   by_cases h1 : 0 < d ∧ letAt L n = 125
   · rw [bracedO_close h1.1 h1.2]
     have : n < L.length := letAt_in' (by omega)
     simp only [good]; omega
   · by_cases h2 : hexV (letAt L n) < 0 ∨ 1114111 < 16 * c + hexV (letAt L n)
     · rw [bracedO_bad h1 h2]; simp only [bad]; omega
     · rw [bracedO_good h1 h2]
       have : n < L.length := hexV_in (by omega)
       have := bracedO_in f (16 * c + hexV (letAt L n)) (d + 1) (n + 1) (by omega)
       omega
theorem lowV_in (n : Nat) (h : 0 ≤ lowV L len n) : n + 6 ≤ L.length := by
 unfold lowV at h
 split at h
 · rename_i hh
   have h1 : n + 1 < L.length := letAt_in' (by omega)
   have := hexO_n L len 4 0 (n + 2) (by omega)
   have := this.2.2 hh.2.2.1
   omega
 · omega
theorem unicodeO_in (n : Nat) (h : n ≤ L.length) : n ≤ (unicodeO L len n).n ∧ (unicodeO L len n).n ≤ L.length := by
 have hx := hexO_n L len 4 0 n h
 unfold unicodeO
 split
 · omega
 · split
   · rename_i hl
     have := lowV_in _ hl
     simp only [good]; omega
   · omega
theorem numO_in (n : Nat) (h : n ≤ L.length) : n ≤ (numO L len n).n ∧ (numO L len n).n ≤ L.length := by
 unfold numO
 split
 · rename_i hs
   have : n < L.length := by
     by_cases hlt : n < L.length
     · exact hlt
     · rw [letAt_out (by omega)] at hs; exact absurd hs (by decide)
   simp only [good]; omega
 split
 · have : n < L.length := letAt_in' (by omega)
   have := zeroO_in (L := L) (len := len) (n + 1) (by omega); omega
 split
 · have : n < L.length := letAt_in' (by omega)
   have := controlO_in (L := L) (len := len) (n + 1) (by omega); omega
 split
 · have : n < L.length := letAt_in' (by omega)
   have := hexO_n L len 2 0 (n + 1) (by omega); omega
 split
 · have : n + 1 < L.length := letAt_in' (by omega)
   have := bracedO_in (L := L) (len := len) (L.length + 1 - (n + 2)) 0 0 (n + 2) (by omega)
   unfold bracedP; omega
 split
 · have : n < L.length := letAt_in' (by omega)
   have := unicodeO_in (L := L) (len := len) (n + 1) (by omega); omega
 · simp only [bad]; omega
theorem escO_in (n : Nat) (h : n < L.length) : n < (escO L len n).n ∧ (escO L len n).n ≤ L.length := by
 unfold escO
 split
 · rename_i hs
   have : n + 1 < L.length := by
     by_cases hlt : n + 1 < L.length
     · exact hlt
     · rw [letAt_out (by omega)] at hs; exact absurd hs (by decide)
   simp only [good]; omega
 split
 · simp only [bad]; omega
 · have := numO_in (L := L) (len := len) (n + 1) (by omega); omega
theorem memberO_in (n : Nat) (h : n < L.length) : n < (memberO L len n).n ∧ (memberO L len n).n ≤ L.length := by
 unfold memberO
 split
 · have : n + 1 < L.length := letAt_in' (by omega)
   simp only [good]; omega
 split
 · have : n + 1 < L.length := letAt_in' (by omega)
   simp only [good]; omega
 split
 · exact escO_in n h
 · simp only [good]; omega
theorem rangeO_in (m : Bool) (c : Int) (n : Nat) (h : dashB L n = true) : n < (rangeO L len m c n).n ∧ (rangeO L len m c n).n ≤ L.length := by
 have hd := dashB_yes h
 have h1 : n + 1 < L.length := letAt_ne hd.2.2
 have := memberO_in (L := L) (len := len) (n + 1) h1
 unfold rangeO
 split
 · omega
 · split
   · simp only [bad]; omega
   · omega
theorem addO_in (n : Nat) (h : n < L.length) : n < (addO L len n).n ∧ (addO L len n).n ≤ L.length := by
 have := memberO_in (L := L) (len := len) n h
 unfold addO
 split
 · omega
 · split
   · rename_i hd
     have := rangeO_in (len := len) (many L n) (memberO L len n).v _ hd
     omega
   · omega
theorem addR_len (n : Nat) (R : List (Int × Int)) : (addR L len n R).length ≤ R.length + 1 := by
 unfold addR
 split
 · simp
 · split
   · omega
   · simp
theorem addS_len (n : Nat) (S : List Int) : (addS L len n S).length ≤ S.length + 1 := by
 unfold addS
 split
 · omega
 · split
   · simp
   · omega
theorem classO_in : ∀ (f n : Nat), n ≤ L.length → n ≤ (classO L len f n).n ∧ (classO L len f n).n ≤ L.length
 | 0, n, h => by simp only [classO, good]; omega
 | f + 1, n, h => by
   simp only [classO]
   split
   · have : n < L.length := letAt_in' (by omega)
     simp only [good]; omega
   split
   · simp only [bad]; omega
   · have := addO_in (L := L) (len := len) n (by omega)
     split
     · omega
     · have := classO_in f (addO L len n).n (by omega)
       omega
end
end Pro
theorem adds_yes {o : Pro.Out} {B : Prop} {D : Value → Prop} {x : Ending} (h : (o.k = 0 ∧ x = .returned .nilIface ∧ B) ∨ (o.k ≠ 0 ∧ ∃ v, x = .returned v ∧ D v)) (hk : o.k = 0) : x = .returned .nilIface ∧ B := by
 rcases h with ⟨_, h⟩ | ⟨h, _⟩
 · exact h
 · exact absurd hk h
theorem adds_no {o : Pro.Out} {B : Prop} {D : Value → Prop} {x : Ending} (h : (o.k = 0 ∧ x = .returned .nilIface ∧ B) ∨ (o.k ≠ 0 ∧ ∃ v, x = .returned v ∧ D v)) (hk : o.k ≠ 0) : ∃ v, x = .returned v ∧ D v := by
 rcases h with ⟨h, _⟩ | ⟨_, h⟩
 · exact absurd h hk
 · exact h
theorem Own.back {b cb : Nat} {w W w' : World} (h1 : Only (Mine b) w W) (h2 : Only (Own b cb) W w') (hc : w.heap.size ≤ cb) : Only (Mine b) w w' :=
 ⟨h2.os.trans h1.os, h2.tape.trans h1.tape, h2.output.trans h1.output, Nat.le_trans h1.size h2.size, fun k hk hn => (h2.block k (Nat.lt_of_lt_of_le hk h1.size) (fun e => by
   rcases e with e | e
   · exact hn e
   · omega)).trans (h1.block k hk hn)⟩
namespace Pro
theorem countL_go {L : List (Int × Int)} {f n : Nat} {c : Int} (h : dig (letAt L n) = true) : countL L (f + 1) c n = countL L f (min (c * 10 + (letAt L n - 48)) 101) (n + 1) := by simp only [countL]; rw [if_pos h]
theorem countL_stop {L : List (Int × Int)} {f n : Nat} {c : Int} (h : dig (letAt L n) = false) : countL L (f + 1) c n = (c, n) := by simp only [countL]; rw [if_neg (by simp [h])]
theorem dig_in {L : List (Int × Int)} {n : Nat} (h : dig (letAt L n) = true) : n < L.length := letAt_in' (by unfold dig at h; simp at h; omega)
theorem countL_in (L : List (Int × Int)) : ∀ (f : Nat) (c : Int) (n : Nat), n ≤ L.length → 0 ≤ c → c ≤ 101 → n ≤ (countL L f c n).2 ∧ (countL L f c n).2 ≤ L.length ∧ 0 ≤ (countL L f c n).1 ∧ (countL L f c n).1 ≤ 101
 | 0, c, n, h, h0, h1 => by simp only [countL]; omega
 | f + 1, c, n, h, h0, h1 => by
   cases hd : dig (letAt L n)
   · rw [countL_stop hd]; simp only []; omega
   · rw [countL_go hd]
     have := dig_in hd
     have hb : 48 ≤ letAt L n := by unfold dig at hd; simp at hd; omega
     have := countL_in L f (min (c * 10 + (letAt L n - 48)) 101) (n + 1) (by omega) (by omega) (by omega)
     omega
theorem countO_in {L : List (Int × Int)} {len : Int} (n : Nat) (h : n ≤ L.length) : n ≤ (countO L len n).n ∧ (countO L len n).n ≤ L.length ∧ 0 ≤ (countO L len n).v ∧ (countO L len n).v ≤ 100 := by
 have := countL_in L (L.length + 1 - n) 0 n h (by omega) (by omega)
 unfold countO countP
 split
 · simp only [bad]; omega
 · split
   · simp only [bad]; omega
   · simp only [good]; omega
end Pro
theorem pcount_any (b : Nat) (L : List (Int × Int)) (n : Nat) (len dp : Int) (a : Nat → Addr) (w : World) (h : RdAt w b L n len dp) (hS : Sents w a) (hb : 10 ≤ b) (hL : L.length ≤ 400) (hn : n ≤ L.length) (_hF : Pro.Fit L) :
   Calls Tryz.prog 258 #[.pointer (some ⟨b, 0, none⟩)] w (Tells b L len dp a w (Pro.countO L len n) (.int .i64 (Pro.countO L len n).v) (.int .i64 0)) := by
 have T := hide (Trk.start h hS hb)
 clear h hS
 cases hd : Pro.dig (Pro.letAt L n)
 · have HO : Hid (Pro.countO L len n = Pro.bad 3 (Pro.placeAt L len n) n) := by unfold Pro.countO; rw [if_pos hd]; rfl
   have hd' : (decide (48 ≤ Pro.letAt L n) && decide (Pro.letAt L n ≤ 57)) = false := hd
   go_enter Tryz.func258, Tryz.ntmps258
   go_wp2_with (first | (go_at_call 94; refine (place_t (n := n) (by exact unhide T) hL (by omega)).mono ?_; rintro e wq ⟨rfl, qq, rfl⟩) | (go_at_call 131; refine (peek_t (n := n) (by exact (unhide T).drewN _) hL (by omega)).mono ?_; rintro e wq ⟨rfl, hwq⟩; have hwr := hwq.symm; subst hwr; clear hwq) | (go_at_call 298; refine (isDigit_any _ _).mono ?_; rintro e wq ⟨rfl, hwq⟩; have hwr := hwq.symm; subst hwr; clear hwq); (rw [hd']) | (go_at_call 61; refine (wrong_t (n := n) (by exact (unhide T).drewN _) hL (by omega)).mono ?_; rintro e wq ⟨v, rfl, hv, tq⟩; have T := hide tq; have c1 := tq.c1; have f1 := tq.f1))
   go_ret2
   exact (unhide T).bad (unhide HO) (by decide) hv
 · have hd' : (decide (48 ≤ Pro.letAt L n) && decide (Pro.letAt L n ≤ 57)) = true := hd
   go_enter Tryz.func258, Tryz.ntmps258
   go_wp2_with (first | (go_at_call 94; refine (place_t (n := n) (by exact unhide T) hL (by omega)).mono ?_; rintro e wq ⟨rfl, qq, rfl⟩) | (go_at_call 131; refine (peek_t (n := n) (by exact (unhide T).drewN _) hL (by omega)).mono ?_; rintro e wq ⟨rfl, hwq⟩; have hwr := hwq.symm; subst hwr; clear hwq) | (go_at_call 298; refine (isDigit_any _ _).mono ?_; rintro e wq ⟨rfl, hwq⟩; have hwr := hwq.symm; subst hwr; clear hwq); (rw [hd']))
   have T1 := hide ((unhide T).drewN qq)
   generalize w.drewN qq = w1 at *
   go_loopw [5] (fun c wr => ∃ (q : Int) (m : Nat), c = .int .i64 q ∧ 0 ≤ q ∧ q ≤ 101 ∧ m ≤ L.length ∧ Hid (Trk w.heap.size w b L m len dp a wr) ∧ Hid (Pro.countP L n = Pro.countL L (L.length + 1 - m) q m)) (fun _ wr => L.length - rdN wr b)
   case atStart => exact ⟨0, n, rfl, by omega, by omega, hn, T1, rfl⟩
   case round =>
     obtain ⟨q, m, rfl, hq0, hq1, hm, T, HF⟩ := hrel
     have hrd := (unhide T).rdN
     have hfu : Hid (L.length + 1 - m = (L.length - m) + 1) := by show _ = _; omega
     cases he : Pro.dig (Pro.letAt L m)
     · have he' : (decide (48 ≤ Pro.letAt L m) && decide (Pro.letAt L m ≤ 57)) = false := he
       have HG : Hid (Pro.countP L n = (q, m)) := by rw [unhide HF, unhide hfu]; exact Pro.countL_stop he
       by_cases hbig : 100 < q
       · have HO : Hid (Pro.countO L len n = Pro.bad 5 (Pro.placeAt L len n) m) := by unfold Pro.countO; rw [if_neg (by simp [hd]), unhide HG, if_pos hbig]; rfl
         have hs5 := (unhide T).se.s5
         go_wp2_with (first | (go_at_call 131; refine (peek_t (n := m) (by exact unhide T) hL (by omega)).mono ?_; rintro e wq ⟨rfl, hwq⟩; have hwr := hwq.symm; subst hwr; clear hwq) | (go_at_call 298; refine (isDigit_any _ _).mono ?_; rintro e wq ⟨rfl, hwq⟩; have hwr := hwq.symm; subst hwr; clear hwq); (rw [he']) | (go_at_call 62; refine (new_t (n := m) _ 5 _ _ rfl (by exact unhide T)).mono ?_; rintro e wq ⟨v, rfl, hv, tq⟩; have T := hide tq; have c1 := tq.c1; have f1 := tq.f1))
         go_ret2
         exact (unhide T).bad (unhide HO) (by decide) hv
       · have HO : Hid (Pro.countO L len n = Pro.good q m) := by unfold Pro.countO; rw [if_neg (by simp [hd]), unhide HG, if_neg hbig]; rfl
         go_wp2_with (first | (go_at_call 131; refine (peek_t (n := m) (by exact unhide T) hL (by omega)).mono ?_; rintro e wq ⟨rfl, hwq⟩; have hwr := hwq.symm; subst hwr; clear hwq) | (go_at_call 298; refine (isDigit_any _ _).mono ?_; rintro e wq ⟨rfl, hwq⟩; have hwr := hwq.symm; subst hwr; clear hwq); (rw [he']))
         go_ret2
         exact (unhide T).good (unhide HO) (by rw [unhide HO]; rfl)
     · have he' : (decide (48 ≤ Pro.letAt L m) && decide (Pro.letAt L m ≤ 57)) = true := he
       have hml := Pro.dig_in he
       have HG : Hid (Pro.countP L n = Pro.countL L (L.length + 1 - (m + 1)) (min (q * 10 + (Pro.letAt L m - 48)) 101) (m + 1)) := by rw [unhide HF, show L.length + 1 - m = (L.length + 1 - (m + 1)) + 1 by omega]; exact Pro.countL_go he
       have hlo : 48 ≤ Pro.letAt L m ∧ Pro.letAt L m ≤ 57 := by simpa using he'
       have c1 := (unhide T).c1
       have f1 := (unhide T).f1
       go_wp2_with (first | (go_at_call 131; refine (peek_t (n := m) (by exact unhide T) hL (by omega)).mono ?_; rintro e wq ⟨rfl, hwq⟩; have hwr := hwq.symm; subst hwr; clear hwq) | (go_at_call 298; refine (isDigit_any _ _).mono ?_; rintro e wq ⟨rfl, hwq⟩; have hwr := hwq.symm; subst hwr; clear hwq); (rw [he']))
       have T2 := (unhide T).setN (m + 1) ((m : Int) + 1) (by omega)
       refine ⟨⟨min (q * 10 + (Pro.letAt L m - 48)) 101, m + 1, ?_, by omega, by omega, by omega, hide T2, HG⟩, by rw [T2.rdN, hrd]; omega⟩
       rw [show (if 101 < q * 10 + (Pro.letAt L m - 48) then (101 : Int) else q * 10 + (Pro.letAt L m - 48)) = min (q * 10 + (Pro.letAt L m - 48)) 101 by split <;> omega]
structure RepAt (w : World) (rb : Nat) (p : Value) (l m : Int) : Prop where
 k0 : w.cell? ⟨rb, 0, none⟩ = some p
 k1 : w.cell? ⟨rb, 1, none⟩ = some (.int .i64 l)
 k2 : w.cell? ⟨rb, 2, none⟩ = some (.int .i64 m)
 f1 : w.frozen? ⟨rb, 1, none⟩ = false
 f2 : w.frozen? ⟨rb, 2, none⟩ = false
theorem RepAt.lt {w : World} {rb : Nat} {p : Value} {l m : Int} (h : RepAt w rb p l m) : rb < w.heap.size := World.block_lt_of_cell? w ⟨rb, 0, none⟩ h.k0
theorem RepAt.keep {P : Nat → Prop} {w w' : World} {rb : Nat} {p : Value} {l m : Int} (h : RepAt w rb p l m) (k : Only P w w') (hn : ¬ P rb) : RepAt w' rb p l m :=
 ⟨(k.cell (p := ⟨rb, 0, none⟩) h.lt hn).trans h.k0, (k.cell (p := ⟨rb, 1, none⟩) h.lt hn).trans h.k1, (k.cell (p := ⟨rb, 2, none⟩) h.lt hn).trans h.k2, (k.frozen (p := ⟨rb, 1, none⟩) h.lt hn).trans h.f1, (k.frozen (p := ⟨rb, 2, none⟩) h.lt hn).trans h.f2⟩
theorem RepAt.set1 {w : World} {rb : Nat} {p : Value} {l m : Int} (h : RepAt w rb p l m) (x : Int) : RepAt (w.setCell ⟨rb, 1, none⟩ (.int .i64 x)) rb p x m :=
 ⟨(World.cell?_setCell_other _ _ _ _ (by simp)).trans h.k0, World.cell?_setCell_same _ _ _ h.k1, (World.cell?_setCell_other _ _ _ _ (by simp)).trans h.k2, (frozen_setCell _ _ _ _).trans h.f1, (frozen_setCell _ _ _ _).trans h.f2⟩
theorem RepAt.set2 {w : World} {rb : Nat} {p : Value} {l m : Int} (h : RepAt w rb p l m) (x : Int) : RepAt (w.setCell ⟨rb, 2, none⟩ (.int .i64 x)) rb p l x :=
 ⟨(World.cell?_setCell_other _ _ _ _ (by simp)).trans h.k0, (World.cell?_setCell_other _ _ _ _ (by simp)).trans h.k1, World.cell?_setCell_same _ _ _ h.k2, (frozen_setCell _ _ _ _).trans h.f1, (frozen_setCell _ _ _ _).trans h.f2⟩
structure Rp (rb : Nat) (w0 : World) (b : Nat) (L : List (Int × Int)) (n : Nat) (len dp : Int) (a : Nat → Addr) (p : Value) (l m : Int) (w : World) : Prop where
 t : Trk rb w0 b L n len dp a w
 r : RepAt w rb p l m
section
variable {rb : Nat} {w0 : World} {b : Nat} {L : List (Int × Int)} {n : Nat} {len dp : Int} {a : Nat → Addr} {p : Value} {l m : Int} {w w' : World}
theorem Rp.drewN (h : Rp rb w0 b L n len dp a p l m w) (q : Nat) : Rp rb w0 b L n len dp a p l m (w.drewN q) := ⟨h.t.drewN q, h.r.keep ((Only.refl (fun _ => False) w).drewN q) (fun f => f)⟩
theorem Rp.mine {n' : Nat} (h : Rp rb w0 b L n len dp a p l m w) (k : Only (Mine b) w w') (hr : RdAt w' b L n' len dp) : Rp rb w0 b L n' len dp a p l m w' := ⟨h.t.mine k hr, h.r.keep k (fun e => by have := h.t.lt; unfold Mine at e; omega)⟩
theorem Rp.calm (h : Rp rb w0 b L n len dp a p l m w) (k : Only (fun _ => False) w w') : Rp rb w0 b L n len dp a p l m w' := ⟨h.t.calm k, h.r.keep k (fun f => f)⟩
theorem Rp.setN (h : Rp rb w0 b L n len dp a p l m w) (i : Nat) (j : Int) (hj : j = (i : Int)) : Rp rb w0 b L i len dp a p l m (w.setCell ⟨b, 1, none⟩ (.int .i64 j)) := h.mine ((Only.refl _ _).mine _ _) (h.t.rd.setN i j hj)
theorem Rp.set1 (h : Rp rb w0 b L n len dp a p l m w) (x : Int) : Rp rb w0 b L n len dp a p x m (w.setCell ⟨rb, 1, none⟩ (.int .i64 x)) := ⟨h.t.push ((Only.refl _ _).setCell (p := ⟨rb, 1, none⟩) (.inl (Nat.le_refl _)) _), h.r.set1 x⟩
theorem Rp.set2 (h : Rp rb w0 b L n len dp a p l m w) (x : Int) : Rp rb w0 b L n len dp a p l x (w.setCell ⟨rb, 2, none⟩ (.int .i64 x)) := ⟨h.t.push ((Only.refl _ _).setCell (p := ⟨rb, 2, none⟩) (.inl (Nat.le_refl _)) _), h.r.set2 x⟩
theorem takeno_r (word : ByteArray) (h : Rp rb w0 b L n len dp a p l m w) (hL : L.length ≤ 400) (hn : n ≤ 1000) (hw : word.size ≤ 10) (hm : Pro.matchB L n word = false) :
   Calls Tryz.prog 93 #[.pointer (some ⟨b, 0, none⟩), .string word] w fun x w' => x = .returned (.bool false) ∧ ∃ q, w' = w.drewN q := take_no b L n len dp word w h.t.rd hL hn hw hm
theorem take_r (word : ByteArray) (h : Rp rb w0 b L n len dp a p l m w) (hL : L.length ≤ 400) (hn : n ≤ 1000) (hw : word.size ≤ 10) (hm : Pro.matchB L n word = true) :
   Calls Tryz.prog 93 #[.pointer (some ⟨b, 0, none⟩), .string word] w fun x w' => x = .returned (.bool true) ∧ Rp rb w0 b L (n + word.size) len dp a p l m w' :=
 (take_yes b L n len dp word w h.t.rd hL hn hw hm).mono (by rintro e w1 ⟨rfl, h1, h2⟩; exact ⟨rfl, h.mine h2 h1⟩)
theorem wrong_r (h : Rp rb w0 b L n len dp a p l m w) (hL : L.length ≤ 400) (hn : n ≤ L.length) :
   Calls Tryz.prog 61 #[.pointer (some ⟨b, 0, none⟩)] w fun x w' => ∃ v, x = .returned v ∧ FaultAt w' w0.heap.size v (sentV a 3) (Pro.placeAt L len n) ∧ Rp rb w0 b L n len dp a p l m w' :=
 (wrong_at b L n len dp a w h.t.rd h.t.se hL hn).mono (by rintro e w1 ⟨v, rfl, hv, hO⟩; exact ⟨v, rfl, hv.base h.t.on.size, h.calm hO⟩)
theorem new_r (T : TypeId) (k : Nat) (q : Int) (x : Value) (hx : .iface T x = sentV a k) (h : Rp rb w0 b L n len dp a p l m w) :
   Calls Tryz.prog 62 #[.iface T x, .int .i64 q] w fun e w' => ∃ v, e = .returned v ∧ FaultAt w' w0.heap.size v (sentV a k) q ∧ Rp rb w0 b L n len dp a p l m w' :=
 (new_any T x q w).mono (by rintro e w1 ⟨v, rfl, hv, hO⟩; rw [hx] at hv; exact ⟨v, rfl, hv.base h.t.on.size, h.calm hO⟩)
theorem count_r (h : Rp rb w0 b L n len dp a p l m w) (hL : L.length ≤ 400) (hn : n ≤ L.length) (hF : Pro.Fit L) :
   Calls Tryz.prog 258 #[.pointer (some ⟨b, 0, none⟩)] w fun x w' => Rp rb w0 b L (Pro.countO L len n).n len dp a p l m w' ∧ (((Pro.countO L len n).k = 0 ∧ x = .returned (.tuple #[.int .i64 (Pro.countO L len n).v, .nilIface])) ∨ ((Pro.countO L len n).k ≠ 0 ∧ ∃ v, x = .returned (.tuple #[.int .i64 0, v]) ∧ FaultAt w' w0.heap.size v (sentV a (Pro.countO L len n).k) (Pro.countO L len n).p)) :=
 (pcount_any b L n len dp a w h.t.rd h.t.se h.t.hb hL hn hF).mono (by
   rintro x w1 ⟨hO, hR, hT⟩
   refine ⟨h.mine hO hR, ?_⟩
   rcases hT with hT | ⟨hk, v, hx, hv⟩
   · exact .inl hT
   · exact .inr ⟨hk, v, hx, hv.base h.t.on.size⟩)
end
def Counts (rb : Nat) (w0 : World) (b : Nat) (L : List (Int × Int)) (len dp : Int) (a : Nat → Addr) (p : Value) (o : Pro.Out × Int) (x : Ending) (w' : World) : Prop :=
 Trk rb w0 b L o.1.n len dp a w' ∧ ((o.1.k = 0 ∧ x = .returned .nilIface ∧ RepAt w' rb p o.1.v o.2) ∨ (o.1.k ≠ 0 ∧ ∃ v, x = .returned v ∧ FaultAt w' w0.heap.size v (sentV a o.1.k) o.1.p))
theorem pcounts_any (rb : Nat) (w0 : World) (b : Nat) (L : List (Int × Int)) (n : Nat) (len dp : Int) (a : Nat → Addr) (p : Value) (l m : Int) (w : World) (h : Rp rb w0 b L n len dp a p l m w) (hL : L.length ≤ 400) (hn : n < L.length) (hF : Pro.Fit L) (hrb : rb < w0.heap.size) :
   Calls Tryz.prog 218 #[.pointer (some ⟨b, 0, none⟩), .pointer (some ⟨rb, 0, none⟩)] w (Counts rb w0 b L len dp a p (Pro.countsO L len n)) := by
 have X := hide h
 have c1 := h.t.c1
 have f1 := h.t.f1
 have hs4 := h.t.se.s4
 clear h
 have hA := Pro.countO_in (L := L) (len := len) (n + 1) (by omega)
 by_cases hk : (Pro.countO L len (n + 1)).k = 0
 · by_cases h1 : Pro.letAt L (Pro.countO L len (n + 1)).n = 125
   · have m1 : Pro.matchB L (Pro.countO L len (n + 1)).n { data := #[125] } = true := by rw [Pro.matchB_one L _ 125 125 rfl]; simp [h1]
     have HO : Hid (Pro.countsO L len n = (Pro.good (Pro.countO L len (n + 1)).v ((Pro.countO L len (n + 1)).n + 1), (Pro.countO L len (n + 1)).v)) := by unfold Pro.countsO; simp only []; rw [if_neg (by simp [hk]), if_pos h1]; rfl
     clear h1
     go_enter Tryz.func218, Tryz.ntmps218
     go_wp2_with (first | (go_at_call 94; refine (place_t (n := n) (Rp.t (by exact unhide X)) hL (by omega)).mono ?_; rintro e wq ⟨rfl, qq, rfl⟩) | (go_at_call 258; refine (count_r (n := n + 1) (by exact ((unhide X).drewN _).setN _ _ (by omega)) hL (by omega) hF).mono ?_; rintro e wq ⟨xq, hT⟩; obtain rfl := told_yes hT hk; clear hT; have X := hide xq; have k0 := xq.r.k0; have c1 := xq.t.c1; have f1 := xq.t.f1; have k1 := xq.r.k1; have k2 := xq.r.k2; have q1 := xq.r.f1; have q2 := xq.r.f2) | (go_at_call 93; refine (take_r (n := (Pro.countO L len (n + 1)).n) _ (by exact ((unhide X).set1 _).set2 _) hL (by omega) (by decide) (by assumption)).mono ?_; rintro e wq ⟨rfl, xq⟩; have xq : Rp _ _ b L (((Pro.countO L len (n + 1)).n) + 1) len dp a _ _ _ wq := xq; have X := hide xq; have k0 := xq.r.k0; have c1 := xq.t.c1; have f1 := xq.t.f1; have k1 := xq.r.k1; have k2 := xq.r.k2; have q1 := xq.r.f1; have q2 := xq.r.f2))
     go_ret
     rw [unhide HO]
     exact ⟨Rp.t (n := (Pro.countO L len (n + 1)).n + 1) (by exact unhide X), .inl ⟨rfl, rfl, Rp.r (n := (Pro.countO L len (n + 1)).n + 1) (by exact unhide X)⟩⟩
   · have m1 : Pro.matchB L (Pro.countO L len (n + 1)).n { data := #[125] } = false := by rw [Pro.matchB_one L _ 125 125 rfl]; simp [h1]
     by_cases h2 : Pro.letAt L (Pro.countO L len (n + 1)).n = 44
     · have m2 : Pro.matchB L (Pro.countO L len (n + 1)).n { data := #[44] } = true := by rw [Pro.matchB_one L _ 44 44 rfl]; simp [h2]
       have hlt : (Pro.countO L len (n + 1)).n < L.length := Pro.letAt_in' (by omega)
       by_cases h3 : Pro.letAt L ((Pro.countO L len (n + 1)).n + 1) = 125
       · have m3 : Pro.matchB L ((Pro.countO L len (n + 1)).n + 1) { data := #[125] } = true := by rw [Pro.matchB_one L _ 125 125 rfl]; simp [h3]
         have HO : Hid (Pro.countsO L len n = (Pro.good (Pro.countO L len (n + 1)).v ((Pro.countO L len (n + 1)).n + 2), -1)) := by unfold Pro.countsO; simp only []; rw [if_neg (by simp [hk]), if_neg h1, if_neg (by simp [h2]), if_pos h3]; rfl
         clear h1 h2 h3
         go_enter Tryz.func218, Tryz.ntmps218
         go_wp2_with (first | (go_at_call 94; refine (place_t (n := n) (Rp.t (by exact unhide X)) hL (by omega)).mono ?_; rintro e wq ⟨rfl, qq, rfl⟩) | (go_at_call 258; refine (count_r (n := n + 1) (by exact ((unhide X).drewN _).setN _ _ (by omega)) hL (by omega) hF).mono ?_; rintro e wq ⟨xq, hT⟩; obtain rfl := told_yes hT hk; clear hT; have X := hide xq; have k0 := xq.r.k0; have c1 := xq.t.c1; have f1 := xq.t.f1; have k1 := xq.r.k1; have k2 := xq.r.k2; have q1 := xq.r.f1; have q2 := xq.r.f2) | (go_at_call 93; refine (takeno_r (n := (Pro.countO L len (n + 1)).n) _ (by first | exact ((unhide X).set1 _).set2 _ | exact (((unhide X).set1 _).set2 _).drewN _) hL (by omega) (by decide) (by assumption)).mono ?_; rintro e wq ⟨rfl, qq, rfl⟩) | (go_at_call 93; refine (take_r (n := (Pro.countO L len (n + 1)).n) _ (by exact (((unhide X).set1 _).set2 _).drewN _) hL (by omega) (by decide) (by assumption)).mono ?_; rintro e wq ⟨rfl, xq⟩; have xq : Rp _ _ b L (((Pro.countO L len (n + 1)).n) + 1) len dp a _ _ _ wq := xq; have X := hide xq; have k0 := xq.r.k0; have c1 := xq.t.c1; have f1 := xq.t.f1; have k1 := xq.r.k1; have k2 := xq.r.k2; have q1 := xq.r.f1; have q2 := xq.r.f2) | (go_at_call 93; refine (take_r (n := (Pro.countO L len (n + 1)).n + 1) _ (by exact unhide X) hL (by omega) (by decide) (by assumption)).mono ?_; rintro e wq ⟨rfl, xq⟩; have xq : Rp _ _ b L (((Pro.countO L len (n + 1)).n + 1) + 1) len dp a _ _ _ wq := xq; have X := hide xq; have k0 := xq.r.k0; have c1 := xq.t.c1; have f1 := xq.t.f1; have k1 := xq.r.k1; have k2 := xq.r.k2; have q1 := xq.r.f1; have q2 := xq.r.f2))
         go_ret
         rw [unhide HO]
         exact ⟨Rp.t (n := (Pro.countO L len (n + 1)).n + 2) (by exact (unhide X).set2 _), .inl ⟨rfl, rfl, Rp.r (n := (Pro.countO L len (n + 1)).n + 2) (by exact (unhide X).set2 _)⟩⟩
       · have m3 : Pro.matchB L ((Pro.countO L len (n + 1)).n + 1) { data := #[125] } = false := by rw [Pro.matchB_one L _ 125 125 rfl]; simp [h3]
         have hM := Pro.countO_in (L := L) (len := len) ((Pro.countO L len (n + 1)).n + 1) (by omega)
         by_cases hk2 : (Pro.countO L len ((Pro.countO L len (n + 1)).n + 1)).k = 0
         · by_cases h4 : Pro.letAt L (Pro.countO L len ((Pro.countO L len (n + 1)).n + 1)).n = 125
           · have m4 : Pro.matchB L (Pro.countO L len ((Pro.countO L len (n + 1)).n + 1)).n { data := #[125] } = true := by rw [Pro.matchB_one L _ 125 125 rfl]; simp [h4]
             by_cases h5 : (Pro.countO L len ((Pro.countO L len (n + 1)).n + 1)).v < (Pro.countO L len (n + 1)).v
             · have HO : Hid (Pro.countsO L len n = (Pro.bad 4 (Pro.placeAt L len n) ((Pro.countO L len ((Pro.countO L len (n + 1)).n + 1)).n + 1), 0)) := by unfold Pro.countsO; simp only []; rw [if_neg (by simp [hk]), if_neg h1, if_neg (by simp [h2]), if_neg h3, if_neg (by simp [hk2]), if_neg (by simp [h4]), if_pos h5]; rfl
               clear h1 h2 h3 h4
               go_enter Tryz.func218, Tryz.ntmps218
               go_wp2_with (first | (go_at_call 94; refine (place_t (n := n) (Rp.t (by exact unhide X)) hL (by omega)).mono ?_; rintro e wq ⟨rfl, qq, rfl⟩) | (go_at_call 258; refine (count_r (n := n + 1) (by exact ((unhide X).drewN _).setN _ _ (by omega)) hL (by omega) hF).mono ?_; rintro e wq ⟨xq, hT⟩; obtain rfl := told_yes hT hk; clear hT; have X := hide xq; have k0 := xq.r.k0; have c1 := xq.t.c1; have f1 := xq.t.f1; have k1 := xq.r.k1; have k2 := xq.r.k2; have q1 := xq.r.f1; have q2 := xq.r.f2) | (go_at_call 93; refine (takeno_r (n := (Pro.countO L len (n + 1)).n) _ (by first | exact ((unhide X).set1 _).set2 _ | exact (((unhide X).set1 _).set2 _).drewN _) hL (by omega) (by decide) (by assumption)).mono ?_; rintro e wq ⟨rfl, qq, rfl⟩) | (go_at_call 93; refine (take_r (n := (Pro.countO L len (n + 1)).n) _ (by exact (((unhide X).set1 _).set2 _).drewN _) hL (by omega) (by decide) (by assumption)).mono ?_; rintro e wq ⟨rfl, xq⟩; have xq : Rp _ _ b L (((Pro.countO L len (n + 1)).n) + 1) len dp a _ _ _ wq := xq; have X := hide xq; have k0 := xq.r.k0; have c1 := xq.t.c1; have f1 := xq.t.f1; have k1 := xq.r.k1; have k2 := xq.r.k2; have q1 := xq.r.f1; have q2 := xq.r.f2); (have hs4 := (unhide X).t.se.s4) | (go_at_call 93; refine (takeno_r (n := (Pro.countO L len (n + 1)).n + 1) _ (by exact unhide X) hL (by omega) (by decide) (by assumption)).mono ?_; rintro e wq ⟨rfl, qq, rfl⟩) | (go_at_call 258; refine (count_r (n := (Pro.countO L len (n + 1)).n + 1) (by exact (unhide X).drewN _) hL (by omega) hF).mono ?_; rintro e wq ⟨xq, hT⟩; obtain rfl := told_yes hT hk2; clear hT; have X := hide xq; have k0 := xq.r.k0; have c1 := xq.t.c1; have f1 := xq.t.f1; have k1 := xq.r.k1; have k2 := xq.r.k2; have q1 := xq.r.f1; have q2 := xq.r.f2); (have hs4 := (unhide X).t.se.s4) | (go_at_call 93; refine (take_r (n := (Pro.countO L len ((Pro.countO L len (n + 1)).n + 1)).n) _ (by exact (unhide X).set2 _) hL (by omega) (by decide) (by assumption)).mono ?_; rintro e wq ⟨rfl, xq⟩; have xq : Rp _ _ b L (((Pro.countO L len ((Pro.countO L len (n + 1)).n + 1)).n) + 1) len dp a _ _ _ wq := xq; have X := hide xq; have k0 := xq.r.k0; have c1 := xq.t.c1; have f1 := xq.t.f1; have k1 := xq.r.k1; have k2 := xq.r.k2; have q1 := xq.r.f1; have q2 := xq.r.f2); (have hs4 := (unhide X).t.se.s4) | (go_at_call 62; refine (new_r (n := (Pro.countO L len ((Pro.countO L len (n + 1)).n + 1)).n + 1) _ 4 _ _ rfl (by exact unhide X)).mono ?_; rintro e wq ⟨v, rfl, hv, xq⟩; have X := hide xq; have k0 := xq.r.k0; have c1 := xq.t.c1; have f1 := xq.t.f1; have k1 := xq.r.k1; have k2 := xq.r.k2; have q1 := xq.r.f1; have q2 := xq.r.f2))
               go_ret
               rw [unhide HO]
               exact ⟨Rp.t (n := (Pro.countO L len ((Pro.countO L len (n + 1)).n + 1)).n + 1) (unhide X), .inr ⟨(show (4 : Nat) ≠ 0 by decide), v, rfl, hv⟩⟩
             · have HO : Hid (Pro.countsO L len n = (Pro.good (Pro.countO L len (n + 1)).v ((Pro.countO L len ((Pro.countO L len (n + 1)).n + 1)).n + 1), (Pro.countO L len ((Pro.countO L len (n + 1)).n + 1)).v)) := by unfold Pro.countsO; simp only []; rw [if_neg (by simp [hk]), if_neg h1, if_neg (by simp [h2]), if_neg h3, if_neg (by simp [hk2]), if_neg (by simp [h4]), if_neg h5]; rfl
               clear h1 h2 h3 h4
               go_enter Tryz.func218, Tryz.ntmps218
               go_wp2_with (first | (go_at_call 94; refine (place_t (n := n) (Rp.t (by exact unhide X)) hL (by omega)).mono ?_; rintro e wq ⟨rfl, qq, rfl⟩) | (go_at_call 258; refine (count_r (n := n + 1) (by exact ((unhide X).drewN _).setN _ _ (by omega)) hL (by omega) hF).mono ?_; rintro e wq ⟨xq, hT⟩; obtain rfl := told_yes hT hk; clear hT; have X := hide xq; have k0 := xq.r.k0; have c1 := xq.t.c1; have f1 := xq.t.f1; have k1 := xq.r.k1; have k2 := xq.r.k2; have q1 := xq.r.f1; have q2 := xq.r.f2) | (go_at_call 93; refine (takeno_r (n := (Pro.countO L len (n + 1)).n) _ (by first | exact ((unhide X).set1 _).set2 _ | exact (((unhide X).set1 _).set2 _).drewN _) hL (by omega) (by decide) (by assumption)).mono ?_; rintro e wq ⟨rfl, qq, rfl⟩) | (go_at_call 93; refine (take_r (n := (Pro.countO L len (n + 1)).n) _ (by exact (((unhide X).set1 _).set2 _).drewN _) hL (by omega) (by decide) (by assumption)).mono ?_; rintro e wq ⟨rfl, xq⟩; have xq : Rp _ _ b L (((Pro.countO L len (n + 1)).n) + 1) len dp a _ _ _ wq := xq; have X := hide xq; have k0 := xq.r.k0; have c1 := xq.t.c1; have f1 := xq.t.f1; have k1 := xq.r.k1; have k2 := xq.r.k2; have q1 := xq.r.f1; have q2 := xq.r.f2) | (go_at_call 93; refine (takeno_r (n := (Pro.countO L len (n + 1)).n + 1) _ (by exact unhide X) hL (by omega) (by decide) (by assumption)).mono ?_; rintro e wq ⟨rfl, qq, rfl⟩) | (go_at_call 258; refine (count_r (n := (Pro.countO L len (n + 1)).n + 1) (by exact (unhide X).drewN _) hL (by omega) hF).mono ?_; rintro e wq ⟨xq, hT⟩; obtain rfl := told_yes hT hk2; clear hT; have X := hide xq; have k0 := xq.r.k0; have c1 := xq.t.c1; have f1 := xq.t.f1; have k1 := xq.r.k1; have k2 := xq.r.k2; have q1 := xq.r.f1; have q2 := xq.r.f2) | (go_at_call 93; refine (take_r (n := (Pro.countO L len ((Pro.countO L len (n + 1)).n + 1)).n) _ (by exact (unhide X).set2 _) hL (by omega) (by decide) (by assumption)).mono ?_; rintro e wq ⟨rfl, xq⟩; have xq : Rp _ _ b L (((Pro.countO L len ((Pro.countO L len (n + 1)).n + 1)).n) + 1) len dp a _ _ _ wq := xq; have X := hide xq; have k0 := xq.r.k0; have c1 := xq.t.c1; have f1 := xq.t.f1; have k1 := xq.r.k1; have k2 := xq.r.k2; have q1 := xq.r.f1; have q2 := xq.r.f2))
               go_ret
               rw [unhide HO]
               exact ⟨Rp.t (n := (Pro.countO L len ((Pro.countO L len (n + 1)).n + 1)).n + 1) (by exact unhide X), .inl ⟨rfl, rfl, Rp.r (n := (Pro.countO L len ((Pro.countO L len (n + 1)).n + 1)).n + 1) (by exact unhide X)⟩⟩
           · have m4 : Pro.matchB L (Pro.countO L len ((Pro.countO L len (n + 1)).n + 1)).n { data := #[125] } = false := by rw [Pro.matchB_one L _ 125 125 rfl]; simp [h4]
             have HO : Hid (Pro.countsO L len n = (Pro.bad 3 (Pro.placeAt L len (Pro.countO L len ((Pro.countO L len (n + 1)).n + 1)).n) (Pro.countO L len ((Pro.countO L len (n + 1)).n + 1)).n, 0)) := by unfold Pro.countsO; simp only []; rw [if_neg (by simp [hk]), if_neg h1, if_neg (by simp [h2]), if_neg h3, if_neg (by simp [hk2]), if_pos h4]; rfl
             clear h1 h2 h3 h4
             go_enter Tryz.func218, Tryz.ntmps218
             go_wp2_with (first | (go_at_call 94; refine (place_t (n := n) (Rp.t (by exact unhide X)) hL (by omega)).mono ?_; rintro e wq ⟨rfl, qq, rfl⟩) | (go_at_call 258; refine (count_r (n := n + 1) (by exact ((unhide X).drewN _).setN _ _ (by omega)) hL (by omega) hF).mono ?_; rintro e wq ⟨xq, hT⟩; obtain rfl := told_yes hT hk; clear hT; have X := hide xq; have k0 := xq.r.k0; have c1 := xq.t.c1; have f1 := xq.t.f1; have k1 := xq.r.k1; have k2 := xq.r.k2; have q1 := xq.r.f1; have q2 := xq.r.f2) | (go_at_call 93; refine (takeno_r (n := (Pro.countO L len (n + 1)).n) _ (by first | exact ((unhide X).set1 _).set2 _ | exact (((unhide X).set1 _).set2 _).drewN _) hL (by omega) (by decide) (by assumption)).mono ?_; rintro e wq ⟨rfl, qq, rfl⟩) | (go_at_call 93; refine (take_r (n := (Pro.countO L len (n + 1)).n) _ (by exact (((unhide X).set1 _).set2 _).drewN _) hL (by omega) (by decide) (by assumption)).mono ?_; rintro e wq ⟨rfl, xq⟩; have xq : Rp _ _ b L (((Pro.countO L len (n + 1)).n) + 1) len dp a _ _ _ wq := xq; have X := hide xq; have k0 := xq.r.k0; have c1 := xq.t.c1; have f1 := xq.t.f1; have k1 := xq.r.k1; have k2 := xq.r.k2; have q1 := xq.r.f1; have q2 := xq.r.f2) | (go_at_call 93; refine (takeno_r (n := (Pro.countO L len (n + 1)).n + 1) _ (by exact unhide X) hL (by omega) (by decide) (by assumption)).mono ?_; rintro e wq ⟨rfl, qq, rfl⟩) | (go_at_call 258; refine (count_r (n := (Pro.countO L len (n + 1)).n + 1) (by exact (unhide X).drewN _) hL (by omega) hF).mono ?_; rintro e wq ⟨xq, hT⟩; obtain rfl := told_yes hT hk2; clear hT; have X := hide xq; have k0 := xq.r.k0; have c1 := xq.t.c1; have f1 := xq.t.f1; have k1 := xq.r.k1; have k2 := xq.r.k2; have q1 := xq.r.f1; have q2 := xq.r.f2) | (go_at_call 93; refine (takeno_r (n := (Pro.countO L len ((Pro.countO L len (n + 1)).n + 1)).n) _ (by exact (unhide X).set2 _) hL (by omega) (by decide) (by assumption)).mono ?_; rintro e wq ⟨rfl, qq, rfl⟩) | (go_at_call 61; refine (wrong_r (n := (Pro.countO L len ((Pro.countO L len (n + 1)).n + 1)).n) (by exact ((unhide X).set2 _).drewN _) hL (by omega)).mono ?_; rintro e wq ⟨v, rfl, hv, xq⟩; have X := hide xq; have k0 := xq.r.k0; have c1 := xq.t.c1; have f1 := xq.t.f1; have k1 := xq.r.k1; have k2 := xq.r.k2; have q1 := xq.r.f1; have q2 := xq.r.f2))
             go_ret
             rw [unhide HO]
             exact ⟨Rp.t (n := (Pro.countO L len ((Pro.countO L len (n + 1)).n + 1)).n) (unhide X), .inr ⟨(show (3 : Nat) ≠ 0 by decide), v, rfl, hv⟩⟩
         · have HO : Hid (Pro.countsO L len n = ((Pro.countO L len ((Pro.countO L len (n + 1)).n + 1)), 0)) := by unfold Pro.countsO; simp only []; rw [if_neg (by simp [hk]), if_neg h1, if_neg (by simp [h2]), if_neg h3, if_pos hk2]; rfl
           clear h1 h2 h3
           go_enter Tryz.func218, Tryz.ntmps218
           go_wp2_with (first | (go_at_call 94; refine (place_t (n := n) (Rp.t (by exact unhide X)) hL (by omega)).mono ?_; rintro e wq ⟨rfl, qq, rfl⟩) | (go_at_call 258; refine (count_r (n := n + 1) (by exact ((unhide X).drewN _).setN _ _ (by omega)) hL (by omega) hF).mono ?_; rintro e wq ⟨xq, hT⟩; obtain rfl := told_yes hT hk; clear hT; have X := hide xq; have k0 := xq.r.k0; have c1 := xq.t.c1; have f1 := xq.t.f1; have k1 := xq.r.k1; have k2 := xq.r.k2; have q1 := xq.r.f1; have q2 := xq.r.f2) | (go_at_call 93; refine (takeno_r (n := (Pro.countO L len (n + 1)).n) _ (by first | exact ((unhide X).set1 _).set2 _ | exact (((unhide X).set1 _).set2 _).drewN _) hL (by omega) (by decide) (by assumption)).mono ?_; rintro e wq ⟨rfl, qq, rfl⟩) | (go_at_call 93; refine (take_r (n := (Pro.countO L len (n + 1)).n) _ (by exact (((unhide X).set1 _).set2 _).drewN _) hL (by omega) (by decide) (by assumption)).mono ?_; rintro e wq ⟨rfl, xq⟩; have xq : Rp _ _ b L (((Pro.countO L len (n + 1)).n) + 1) len dp a _ _ _ wq := xq; have X := hide xq; have k0 := xq.r.k0; have c1 := xq.t.c1; have f1 := xq.t.f1; have k1 := xq.r.k1; have k2 := xq.r.k2; have q1 := xq.r.f1; have q2 := xq.r.f2) | (go_at_call 93; refine (takeno_r (n := (Pro.countO L len (n + 1)).n + 1) _ (by exact unhide X) hL (by omega) (by decide) (by assumption)).mono ?_; rintro e wq ⟨rfl, qq, rfl⟩) | (go_at_call 258; refine (count_r (n := (Pro.countO L len (n + 1)).n + 1) (by exact (unhide X).drewN _) hL (by omega) hF).mono ?_; rintro e wq ⟨xq, hT⟩; obtain ⟨v, rfl, hv⟩ := told_no hT hk2; obtain ⟨gv, hgv⟩ := hv.form; subst hgv; clear hT; have X := hide xq; have k0 := xq.r.k0; have c1 := xq.t.c1; have f1 := xq.t.f1; have k1 := xq.r.k1; have k2 := xq.r.k2; have q1 := xq.r.f1; have q2 := xq.r.f2))
           go_ret
           rw [unhide HO]
           exact ⟨((unhide X).set2 _).t, .inr ⟨hk2, _, rfl, hv.keep ((Only.refl (fun g => g = rb) _).setCell (p := ⟨rb, 2, none⟩) (.inl rfl) _) (fun g hg e => by omega)⟩⟩
     · have m2 : Pro.matchB L (Pro.countO L len (n + 1)).n { data := #[44] } = false := by rw [Pro.matchB_one L _ 44 44 rfl]; simp [h2]
       have HO : Hid (Pro.countsO L len n = (Pro.bad 3 (Pro.placeAt L len (Pro.countO L len (n + 1)).n) (Pro.countO L len (n + 1)).n, 0)) := by unfold Pro.countsO; simp only []; rw [if_neg (by simp [hk]), if_neg h1, if_pos h2]; rfl
       clear h1 h2
       go_enter Tryz.func218, Tryz.ntmps218
       go_wp2_with (first | (go_at_call 94; refine (place_t (n := n) (Rp.t (by exact unhide X)) hL (by omega)).mono ?_; rintro e wq ⟨rfl, qq, rfl⟩) | (go_at_call 258; refine (count_r (n := n + 1) (by exact ((unhide X).drewN _).setN _ _ (by omega)) hL (by omega) hF).mono ?_; rintro e wq ⟨xq, hT⟩; obtain rfl := told_yes hT hk; clear hT; have X := hide xq; have k0 := xq.r.k0; have c1 := xq.t.c1; have f1 := xq.t.f1; have k1 := xq.r.k1; have k2 := xq.r.k2; have q1 := xq.r.f1; have q2 := xq.r.f2) | (go_at_call 93; refine (takeno_r (n := (Pro.countO L len (n + 1)).n) _ (by first | exact ((unhide X).set1 _).set2 _ | exact (((unhide X).set1 _).set2 _).drewN _) hL (by omega) (by decide) (by assumption)).mono ?_; rintro e wq ⟨rfl, qq, rfl⟩) | (go_at_call 61; refine (wrong_r (n := (Pro.countO L len (n + 1)).n) (by exact (((unhide X).set1 _).set2 _).drewN _) hL (by omega)).mono ?_; rintro e wq ⟨v, rfl, hv, xq⟩; have X := hide xq; have k0 := xq.r.k0; have c1 := xq.t.c1; have f1 := xq.t.f1; have k1 := xq.r.k1; have k2 := xq.r.k2; have q1 := xq.r.f1; have q2 := xq.r.f2))
       go_ret
       rw [unhide HO]
       exact ⟨Rp.t (n := (Pro.countO L len (n + 1)).n) (unhide X), .inr ⟨(show (3 : Nat) ≠ 0 by decide), v, rfl, hv⟩⟩
 · have HO : Hid (Pro.countsO L len n = ((Pro.countO L len (n + 1)), 0)) := by unfold Pro.countsO; simp only []; rw [if_pos hk]; rfl
   go_enter Tryz.func218, Tryz.ntmps218
   go_wp2_with (first | (go_at_call 94; refine (place_t (n := n) (Rp.t (by exact unhide X)) hL (by omega)).mono ?_; rintro e wq ⟨rfl, qq, rfl⟩) | (go_at_call 258; refine (count_r (n := n + 1) (by exact ((unhide X).drewN _).setN _ _ (by omega)) hL (by omega) hF).mono ?_; rintro e wq ⟨xq, hT⟩; obtain ⟨v, rfl, hv⟩ := told_no hT hk; obtain ⟨gv, hgv⟩ := hv.form; subst hgv; clear hT; have X := hide xq; have k0 := xq.r.k0; have c1 := xq.t.c1; have f1 := xq.t.f1; have k1 := xq.r.k1; have k2 := xq.r.k2; have q1 := xq.r.f1; have q2 := xq.r.f2))
   go_ret
   rw [unhide HO]
   exact ⟨(unhide X).t, .inr ⟨hk, _, rfl, hv⟩⟩
namespace Pro
def quantO (L : List (Int × Int)) (len : Int) (n : Nat) : Bool × Out × Int :=
 if letAt L n = 42 then (true, good 0 (n + 1), -1)
 else if letAt L n = 43 then (true, good 1 (n + 1), -1)
 else if letAt L n = 63 then (true, good 0 (n + 1), 1)
 else if letAt L n = 123 then (true, countsO L len n)
 else (false, good 0 n, 0)
def lazyN (L : List (Int × Int)) (n : Nat) : Nat := if letAt L n = 63 then n + 1 else n
end Pro
def Quants (b : Nat) (L : List (Int × Int)) (len dp : Int) (a : Nat → Addr) (w : World) (p : Value) (o : Bool × Pro.Out × Int) (x : Ending) (w' : World) : Prop :=
 Only (Mine b) w w' ∧ ((o.1 = false ∧ x = .returned (.tuple #[p, .nilIface]) ∧ RdAt w' b L o.2.1.n len dp) ∨
   (o.1 = true ∧ o.2.1.k = 0 ∧ x = .returned (.tuple #[.iface 215 (.agg #[p, .int .i64 o.2.1.v, .int .i64 o.2.2]), .nilIface]) ∧ RdAt w' b L (Pro.lazyN L o.2.1.n) len dp) ∨
   (o.1 = true ∧ o.2.1.k ≠ 0 ∧ RdAt w' b L o.2.1.n len dp ∧ ∃ v, x = .returned (.tuple #[.nilIface, v]) ∧ FaultAt w' w.heap.size v (sentV a o.2.1.k) o.2.1.p))
theorem lazy_r {rb : Nat} {w0 : World} {b : Nat} {L : List (Int × Int)} {n : Nat} {len dp : Int} {a : Nat → Addr} {p : Value} {l m : Int} {w : World} (h : Rp rb w0 b L n len dp a p l m w) (hL : L.length ≤ 400) (hn : n ≤ 1000) :
   Calls Tryz.prog 93 #[.pointer (some ⟨b, 0, none⟩), .string { data := #[63] }] w fun x w' => ∃ q, x = .returned (.bool q) ∧ Rp rb w0 b L (Pro.lazyN L n) len dp a p l m w' :=
 (take_any b L n len dp { data := #[63] } w h.t.rd hL hn (by decide)).mono (by
   rintro e w1 ⟨rfl, h1, h2⟩
   refine ⟨_, rfl, h.mine h2 ?_⟩
   have : Pro.behind L n { data := #[63] } = Pro.lazyN L n := by
     unfold Pro.lazyN
     by_cases h63 : Pro.letAt L n = 63
     · rw [if_pos h63]; exact Pro.behind_yes (by rw [Pro.matchB_one L n 63 63 rfl]; simp [h63])
     · rw [if_neg h63]; exact Pro.behind_no (by rw [Pro.matchB_one L n 63 63 rfl]; simp [h63])
   rw [this] at h1
   exact h1)
theorem Rp.start {b : Nat} {L : List (Int × Int)} {n : Nat} {len dp : Int} {a : Nat → Addr} {w : World} (p : Value) (h : RdAt w b L n len dp) (hS : Sents w a) (hb : 10 ≤ b) : Rp w.heap.size (w.alloc (.cells #[p, .int .i64 0, .int .i64 0] 215)) b L n len dp a p 0 0 (w.alloc (.cells #[p, .int .i64 0, .int .i64 0] 215)) :=
 have t := (Trk.start h hS hb).calm ((Only.refl _ _).alloc (.cells #[p, .int .i64 0, .int .i64 0] 215))
 ⟨⟨t.rd, t.se, Only.refl _ _, t.hb, h.lt, by simp⟩, ⟨new_cell w _ rfl _ _ 0 _ rfl, new_cell w _ rfl _ _ 1 _ rfl, new_cell w _ rfl _ _ 2 _ rfl, new_frozen w _ rfl _ _ 1, new_frozen w _ rfl _ _ 2⟩⟩
namespace Pro
theorem countsO_in {L : List (Int × Int)} {len : Int} (n : Nat) (h : n < L.length) : n ≤ (countsO L len n).1.n ∧ (countsO L len n).1.n ≤ L.length := by
 have ha := countO_in (L := L) (len := len) (n + 1) (by omega)
 unfold countsO
 simp only []
 split
 · simp only []; omega
 split
 · have := letAt_in' (L := L) (n := (countO L len (n + 1)).n) (by omega)
   simp only [good]; omega
 split
 · simp only [bad]; omega
 rename_i h44
 have h1 := letAt_in' (L := L) (n := (countO L len (n + 1)).n) (by omega)
 split
 · have := letAt_in' (L := L) (n := (countO L len (n + 1)).n + 1) (by omega)
   simp only [good]; omega
 have hm := countO_in (L := L) (len := len) ((countO L len (n + 1)).n + 1) (by omega)
 split
 · simp only []; omega
 split
 · simp only [bad]; omega
 rename_i h125
 have h2 := letAt_in' (L := L) (n := (countO L len ((countO L len (n + 1)).n + 1)).n) (by omega)
 split
 · simp only [bad]; omega
 · simp only [good]; omega
end Pro
theorem quantified_any (b : Nat) (L : List (Int × Int)) (n : Nat) (len dp : Int) (a : Nat → Addr) (w : World) (TT : TypeId) (px : Value) (h : RdAt w b L n len dp) (hS : Sents w a) (hb : 10 ≤ b) (hL : L.length ≤ 400) (hn : n ≤ L.length) (hF : Pro.Fit L) :
   Calls Tryz.prog 170 #[.pointer (some ⟨b, 0, none⟩), .iface TT px] w (Quants b L len dp a w (.iface TT px) (Pro.quantO L len n)) := by
 have X0 := hide (Rp.start (.iface TT px) h hS hb)
 clear h hS
 by_cases h42 : Pro.letAt L n = 42
 · have m42 : Pro.matchB L n { data := #[42] } = true := by rw [Pro.matchB_one L n 42 42 rfl]; simp [h42]
   have HO : Hid (Pro.quantO L len n = (true, Pro.good 0 (n + 1), -1)) := by unfold Pro.quantO; rw [if_pos h42]; rfl
   clear h42
   go_enter Tryz.func170, Tryz.ntmps170
   go_wp2_with fail
   have HW : Hid (Only (Mine b) w (w.alloc (.cells #[.iface TT px, .int .i64 0, .int .i64 0] 215))) := (Only.refl _ _).alloc _
   have hsz : w.heap.size < (w.alloc (.cells #[.iface TT px, .int .i64 0, .int .i64 0] 215)).heap.size := by simp
   have X := unhide X0
   generalize w.alloc (.cells #[.iface TT px, .int .i64 0, .int .i64 0] 215) = W at *
   have hrb : w.heap.size ≤ w.heap.size := Nat.le_refl _
   generalize hrbe : w.heap.size = rb at *
   have c1 := X.t.c1
   have f1 := X.t.f1
   have k0 := X.r.k0
   have k1 := X.r.k1
   have k2 := X.r.k2
   have q1 := X.r.f1
   have q2 := X.r.f2
   have X := hide X
   clear X0
   go_wp2_with (first | (go_at_call 93; refine (take_r (n := n) _ (by exact unhide X) hL (by omega) (by decide) (by assumption)).mono ?_; rintro e wq ⟨rfl, xq⟩; have xq : Rp _ _ b L ((n) + 1) len dp a _ _ _ wq := xq; have X := hide xq; have k0 := xq.r.k0; have c1 := xq.t.c1; have f1 := xq.t.f1; have k1 := xq.r.k1; have k2 := xq.r.k2; have q1 := xq.r.f1; have q2 := xq.r.f2) | (go_at_call 93; refine (lazy_r (n := n + 1) (by exact (unhide X).set2 _) hL (by omega)).mono ?_; rintro e wq ⟨lz, rfl, xq⟩; have X := hide xq; have k0 := xq.r.k0; have c1 := xq.t.c1; have f1 := xq.t.f1; have k1 := xq.r.k1; have k2 := xq.r.k2; have q1 := xq.r.f1; have q2 := xq.r.f2))
   go_ret2
   rw [unhide HO]
   exact ⟨Own.back (unhide HW) (unhide X).t.on (by omega), .inr (.inl ⟨rfl, rfl, rfl, (unhide X).t.rd⟩)⟩
 · have m42 : Pro.matchB L n { data := #[42] } = false := by rw [Pro.matchB_one L n 42 42 rfl]; simp [h42]
   by_cases h43 : Pro.letAt L n = 43
   · have m43 : Pro.matchB L n { data := #[43] } = true := by rw [Pro.matchB_one L n 43 43 rfl]; simp [h43]
     have HO : Hid (Pro.quantO L len n = (true, Pro.good 1 (n + 1), -1)) := by unfold Pro.quantO; rw [if_neg h42, if_pos h43]; rfl
     clear h42 h43
     go_enter Tryz.func170, Tryz.ntmps170
     go_wp2_with fail
     have HW : Hid (Only (Mine b) w (w.alloc (.cells #[.iface TT px, .int .i64 0, .int .i64 0] 215))) := (Only.refl _ _).alloc _
     have hsz : w.heap.size < (w.alloc (.cells #[.iface TT px, .int .i64 0, .int .i64 0] 215)).heap.size := by simp
     have X := unhide X0
     generalize w.alloc (.cells #[.iface TT px, .int .i64 0, .int .i64 0] 215) = W at *
     have hrb : w.heap.size ≤ w.heap.size := Nat.le_refl _
     generalize hrbe : w.heap.size = rb at *
     have c1 := X.t.c1
     have f1 := X.t.f1
     have k0 := X.r.k0
     have k1 := X.r.k1
     have k2 := X.r.k2
     have q1 := X.r.f1
     have q2 := X.r.f2
     have X := hide X
     clear X0
     go_wp2_with (first | (go_at_call 93; refine (takeno_r (n := n) _ (by first | exact unhide X | exact (unhide X).drewN _) hL (by omega) (by decide) (by assumption)).mono ?_; rintro e wq ⟨rfl, qq, rfl⟩) | (go_at_call 93; refine (take_r (n := n) _ (by exact (unhide X).drewN _) hL (by omega) (by decide) (by assumption)).mono ?_; rintro e wq ⟨rfl, xq⟩; have xq : Rp _ _ b L ((n) + 1) len dp a _ _ _ wq := xq; have X := hide xq; have k0 := xq.r.k0; have c1 := xq.t.c1; have f1 := xq.t.f1; have k1 := xq.r.k1; have k2 := xq.r.k2; have q1 := xq.r.f1; have q2 := xq.r.f2) | (go_at_call 93; refine (lazy_r (n := n + 1) (by exact ((unhide X).set1 _).set2 _) hL (by omega)).mono ?_; rintro e wq ⟨lz, rfl, xq⟩; have X := hide xq; have k0 := xq.r.k0; have c1 := xq.t.c1; have f1 := xq.t.f1; have k1 := xq.r.k1; have k2 := xq.r.k2; have q1 := xq.r.f1; have q2 := xq.r.f2))
     go_ret2
     rw [unhide HO]
     exact ⟨Own.back (unhide HW) (unhide X).t.on (by omega), .inr (.inl ⟨rfl, rfl, rfl, (unhide X).t.rd⟩)⟩
   · have m43 : Pro.matchB L n { data := #[43] } = false := by rw [Pro.matchB_one L n 43 43 rfl]; simp [h43]
     by_cases h63 : Pro.letAt L n = 63
     · have m63 : Pro.matchB L n { data := #[63] } = true := by rw [Pro.matchB_one L n 63 63 rfl]; simp [h63]
       have HO : Hid (Pro.quantO L len n = (true, Pro.good 0 (n + 1), 1)) := by unfold Pro.quantO; rw [if_neg h42, if_neg h43, if_pos h63]; rfl
       clear h42 h43 h63
       go_enter Tryz.func170, Tryz.ntmps170
       go_wp2_with fail
       have HW : Hid (Only (Mine b) w (w.alloc (.cells #[.iface TT px, .int .i64 0, .int .i64 0] 215))) := (Only.refl _ _).alloc _
       have hsz : w.heap.size < (w.alloc (.cells #[.iface TT px, .int .i64 0, .int .i64 0] 215)).heap.size := by simp
       have X := unhide X0
       generalize w.alloc (.cells #[.iface TT px, .int .i64 0, .int .i64 0] 215) = W at *
       have hrb : w.heap.size ≤ w.heap.size := Nat.le_refl _
       generalize hrbe : w.heap.size = rb at *
       have c1 := X.t.c1
       have f1 := X.t.f1
       have k0 := X.r.k0
       have k1 := X.r.k1
       have k2 := X.r.k2
       have q1 := X.r.f1
       have q2 := X.r.f2
       have X := hide X
       clear X0
       go_wp2_with (first | (go_at_call 93; refine (takeno_r (n := n) _ (by first | exact unhide X | exact (unhide X).drewN _) hL (by omega) (by decide) (by assumption)).mono ?_; rintro e wq ⟨rfl, qq, rfl⟩) | (go_at_call 93; refine (take_r (n := n) _ (by exact (unhide X).drewN _) hL (by omega) (by decide) (by assumption)).mono ?_; rintro e wq ⟨rfl, xq⟩; have xq : Rp _ _ b L ((n) + 1) len dp a _ _ _ wq := xq; have X := hide xq; have k0 := xq.r.k0; have c1 := xq.t.c1; have f1 := xq.t.f1; have k1 := xq.r.k1; have k2 := xq.r.k2; have q1 := xq.r.f1; have q2 := xq.r.f2) | (go_at_call 93; refine (lazy_r (n := n + 1) (by exact (unhide X).set2 _) hL (by omega)).mono ?_; rintro e wq ⟨lz, rfl, xq⟩; have X := hide xq; have k0 := xq.r.k0; have c1 := xq.t.c1; have f1 := xq.t.f1; have k1 := xq.r.k1; have k2 := xq.r.k2; have q1 := xq.r.f1; have q2 := xq.r.f2))
       go_ret2
       rw [unhide HO]
       exact ⟨Own.back (unhide HW) (unhide X).t.on (by omega), .inr (.inl ⟨rfl, rfl, rfl, (unhide X).t.rd⟩)⟩
     · have m63 : Pro.matchB L n { data := #[63] } = false := by rw [Pro.matchB_one L n 63 63 rfl]; simp [h63]
       by_cases h123 : Pro.letAt L n = 123
       · have hlt : n < L.length := Pro.letAt_in' (by omega)
         have h123' : (Pro.letAt L n == 123) = true := by simp [h123]
         have HO : Hid (Pro.quantO L len n = (true, Pro.countsO L len n)) := by unfold Pro.quantO; rw [if_neg h42, if_neg h43, if_neg h63, if_pos h123]; rfl
         clear h42 h43 h63 h123
         have hcb := Pro.countsO_in (len := len) n hlt
         by_cases hk : (Pro.countsO L len n).1.k = 0
         · skip
           go_enter Tryz.func170, Tryz.ntmps170
           go_wp2_with fail
           have HW : Hid (Only (Mine b) w (w.alloc (.cells #[.iface TT px, .int .i64 0, .int .i64 0] 215))) := (Only.refl _ _).alloc _
           have hsz : w.heap.size < (w.alloc (.cells #[.iface TT px, .int .i64 0, .int .i64 0] 215)).heap.size := by simp
           have X := unhide X0
           generalize w.alloc (.cells #[.iface TT px, .int .i64 0, .int .i64 0] 215) = W at *
           have hrb : w.heap.size ≤ w.heap.size := Nat.le_refl _
           generalize hrbe : w.heap.size = rb at *
           have c1 := X.t.c1
           have f1 := X.t.f1
           have k0 := X.r.k0
           have k1 := X.r.k1
           have k2 := X.r.k2
           have q1 := X.r.f1
           have q2 := X.r.f2
           have X := hide X
           clear X0
           go_wp2_with (first | (go_at_call 93; refine (takeno_r (n := n) _ (by first | exact unhide X | exact (unhide X).drewN _) hL (by omega) (by decide) (by assumption)).mono ?_; rintro e wq ⟨rfl, qq, rfl⟩) | (go_at_call 131; refine (peek_t (n := n) (Rp.t (by exact (unhide X).drewN _)) hL (by omega)).mono ?_; rintro e wq ⟨rfl, hwq⟩; have hwr := hwq.symm; subst hwr; clear hwq) | (go_at_call 218; refine (pcounts_any rb W b L n len dp a (.iface TT px) 0 0 _ (by exact (unhide X).drewN _) hL hlt hF hsz).mono ?_; rintro e wc ⟨tq, hT⟩; obtain ⟨rfl, hr⟩ := adds_yes hT hk; clear hT; have xq : Rp rb W b L _ len dp a _ _ _ wc := ⟨tq, hr⟩; have X := hide xq; have k0 := xq.r.k0; have c1 := xq.t.c1; have f1 := xq.t.f1; have k1 := xq.r.k1; have k2 := xq.r.k2; have q1 := xq.r.f1; have q2 := xq.r.f2) | (go_at_call 93; refine (lazy_r (n := (Pro.countsO L len n).1.n) (by exact unhide X) hL (by omega)).mono ?_; rintro e wq ⟨lz, rfl, xq⟩; have X := hide xq; have k0 := xq.r.k0; have c1 := xq.t.c1; have f1 := xq.t.f1; have k1 := xq.r.k1; have k2 := xq.r.k2; have q1 := xq.r.f1; have q2 := xq.r.f2))
           go_ret2
           rw [unhide HO]
           exact ⟨Own.back (unhide HW) (unhide X).t.on (by omega), .inr (.inl ⟨rfl, hk, rfl, (unhide X).t.rd⟩)⟩
         · skip
           go_enter Tryz.func170, Tryz.ntmps170
           go_wp2_with fail
           have HW : Hid (Only (Mine b) w (w.alloc (.cells #[.iface TT px, .int .i64 0, .int .i64 0] 215))) := (Only.refl _ _).alloc _
           have hsz : w.heap.size < (w.alloc (.cells #[.iface TT px, .int .i64 0, .int .i64 0] 215)).heap.size := by simp
           have X := unhide X0
           generalize w.alloc (.cells #[.iface TT px, .int .i64 0, .int .i64 0] 215) = W at *
           have hrb : w.heap.size ≤ w.heap.size := Nat.le_refl _
           generalize hrbe : w.heap.size = rb at *
           have c1 := X.t.c1
           have f1 := X.t.f1
           have k0 := X.r.k0
           have k1 := X.r.k1
           have k2 := X.r.k2
           have q1 := X.r.f1
           have q2 := X.r.f2
           have X := hide X
           clear X0
           go_wp2_with (first | (go_at_call 93; refine (takeno_r (n := n) _ (by first | exact unhide X | exact (unhide X).drewN _) hL (by omega) (by decide) (by assumption)).mono ?_; rintro e wq ⟨rfl, qq, rfl⟩) | (go_at_call 131; refine (peek_t (n := n) (Rp.t (by exact (unhide X).drewN _)) hL (by omega)).mono ?_; rintro e wq ⟨rfl, hwq⟩; have hwr := hwq.symm; subst hwr; clear hwq) | (go_at_call 218; refine (pcounts_any rb W b L n len dp a (.iface TT px) 0 0 _ (by exact (unhide X).drewN _) hL hlt hF hsz).mono ?_; rintro e wc ⟨tq, hT⟩; obtain ⟨v, rfl, hv⟩ := adds_no hT hk; clear hT; obtain ⟨gv, hgv⟩ := hv.form; subst hgv; have T := hide tq))
           go_ret2
           rw [unhide HO]
           exact ⟨Own.back (unhide HW) (unhide T).on (by omega), .inr (.inr ⟨rfl, hk, (unhide T).rd, _, rfl, hv.base (by omega)⟩)⟩
       · have h123' : (Pro.letAt L n == 123) = false := by simp [h123]
         have HO : Hid (Pro.quantO L len n = (false, Pro.good 0 n, 0)) := by unfold Pro.quantO; rw [if_neg h42, if_neg h43, if_neg h63, if_neg h123]; rfl
         clear h42 h43 h63 h123
         go_enter Tryz.func170, Tryz.ntmps170
         go_wp2_with fail
         have HW : Hid (Only (Mine b) w (w.alloc (.cells #[.iface TT px, .int .i64 0, .int .i64 0] 215))) := (Only.refl _ _).alloc _
         have hsz : w.heap.size < (w.alloc (.cells #[.iface TT px, .int .i64 0, .int .i64 0] 215)).heap.size := by simp
         have X := unhide X0
         generalize w.alloc (.cells #[.iface TT px, .int .i64 0, .int .i64 0] 215) = W at *
         have hrb : w.heap.size ≤ w.heap.size := Nat.le_refl _
         generalize hrbe : w.heap.size = rb at *
         have c1 := X.t.c1
         have f1 := X.t.f1
         have k0 := X.r.k0
         have k1 := X.r.k1
         have k2 := X.r.k2
         have q1 := X.r.f1
         have q2 := X.r.f2
         have X := hide X
         clear X0
         go_wp2_with (first | (go_at_call 93; refine (takeno_r (n := n) _ (by first | exact unhide X | exact (unhide X).drewN _) hL (by omega) (by decide) (by assumption)).mono ?_; rintro e wq ⟨rfl, qq, rfl⟩) | (go_at_call 131; refine (peek_t (n := n) (Rp.t (by exact (unhide X).drewN _)) hL (by omega)).mono ?_; rintro e wq ⟨rfl, hwq⟩; have hwr := hwq.symm; subst hwr; clear hwq))
         go_ret2
         rw [unhide HO]
         exact ⟨Own.back (unhide HW) ((unhide X).drewN _).t.on (by omega), .inl ⟨rfl, rfl, ((unhide X).drewN _).t.rd⟩⟩
end
end Go.Proofs.YtfnkbmglodopkaaGreatDoor
