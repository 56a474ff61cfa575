/- The program's numbers between braces, and its pairs of halves. The program's words of signs: is a character among some of ASCII? The program's words of signs: the character of a decoding fault The program's escapes. The program's numbers behind a backslash, whichever comes. -/
import Derived.Test.YtnagphodmfejiaaGreatDoorKProAProG
import Derived.Lib.Bytealg
import Derived.Laws.Runes
import Derived.Laws.RangeString
import Derived.WalkMore
import Derived.LoopN
import Derived.Laws.RangeAny
namespace Go.Proofs.YtnagphodmfejiaaGreatDoor
open Go.RowKit
namespace Pro
theorem matchB_one (L : List (Int × Int)) (n : Nat) (c : UInt8) (k : Int) (hk : k = (c.toNat : Int)) : matchB L n { data := #[c] } = decide (letAt L n = k) := by
 subst hk
 show matchF L n { data := #[c] } 1 0 = _
 simp only [matchF]
 have : byteAt { data := #[c] } 0 = (c.toNat : Int) := rfl
 rw [this]
 by_cases h : letAt L (n + 0) = (c.toNat : Int)
 · rw [if_pos h]; simpa using h
 · rw [if_neg h]; simpa using h
theorem matchB_two (L : List (Int × Int)) (n : Nat) (c d : UInt8) (k j : Int) (hk : k = (c.toNat : Int)) (hj : j = (d.toNat : Int)) : matchB L n { data := #[c, d] } = decide (letAt L n = k ∧ letAt L (n + 1) = j) := by
 subst hk; subst hj
 show matchF L n { data := #[c, d] } 2 0 = _
 simp only [matchF]
 have e0 : byteAt { data := #[c, d] } 0 = (c.toNat : Int) := rfl
 have e1 : byteAt { data := #[c, d] } (0 + 1) = (d.toNat : Int) := rfl
 rw [e0, e1]
 by_cases h : letAt L (n + 0) = (c.toNat : Int)
 · rw [if_pos h]
   by_cases h' : letAt L (n + (0 + 1)) = (d.toNat : Int)
   · rw [if_pos h']; simp only [Nat.add_zero, Nat.zero_add] at h h'; simp [h, h']
   · rw [if_neg h']; simp only [Nat.add_zero, Nat.zero_add] at h h'; simp [h, h']
 · rw [if_neg h]; simp only [Nat.add_zero] at h; simp [h]
theorem letAt_in' {L : List (Int × Int)} {n : Nat} (h : 0 ≤ letAt L n) : n < L.length := by
 by_cases hn : n < L.length
 · exact hn
 · rw [letAt_out (by omega)] at h; omega
theorem bracedO_close {L : List (Int × Int)} {len : Int} {f d n : Nat} {c : Int} (h : 0 < d) (h1 : letAt L n = 125) : bracedO L len (f + 1) c d n = good c (n + 1) := by simp only [bracedO]; rw [if_pos ⟨h, h1⟩]
theorem bracedO_bad {L : List (Int × Int)} {len : Int} {f d n : Nat} {c : Int} (h : ¬ (0 < d ∧ letAt L n = 125)) (h1 : hexV (letAt L n) < 0 ∨ 1114111 < 16 * c + hexV (letAt L n)) : bracedO L len (f + 1) c d n = bad 3 (placeAt L len n) n := by simp only [bracedO]; rw [if_neg h, if_pos h1]
theorem bracedO_good {L : List (Int × Int)} {len : Int} {f d n : Nat} {c : Int} (h : ¬ (0 < d ∧ letAt L n = 125)) (h1 : ¬ (hexV (letAt L n) < 0 ∨ 1114111 < 16 * c + hexV (letAt L n))) : bracedO L len (f + 1) c d n = bracedO L len f (16 * c + hexV (letAt L n)) (d + 1) (n + 1) := by simp only [bracedO]; rw [if_neg h, if_neg h1]
end Pro
set_option maxHeartbeats 800000 in
theorem bracedNumber_any (b : Nat) (L : List (Int × Int)) (n : Nat) (len dp : Int) (a : Nat → Addr) (w : World) (h : RdAt w b L n len dp) (hS : Sents w a) (hb : 10 ≤ b) (hL : L.length ≤ 400) (hn : n ≤ L.length) (hF : Pro.Fit L) :
   Calls Tryz.prog 272 #[.pointer (some ⟨b, 0, none⟩)] w (Tells b L len dp a w (Pro.bracedP L len n) (.int .i32 (Pro.bracedP L len n).v) (.int .i32 0)) := by
 have HS := hide hS
 clear hS
 go_enter Tryz.func272, Tryz.ntmps272
 go_wp2_with fail
 go_loopw [4, 5] (fun c i wr => ∃ (d : Nat) (q : Int), i = .int .i64 d ∧ c = .int .i32 q ∧ 0 ≤ q ∧ q ≤ 1114111 ∧ n + d ≤ L.length ∧ Hid (RdAt wr b L (n + d) len dp) ∧ Only (Mine b) w wr ∧ Hid (Pro.bracedP L len n = Pro.bracedO L len (L.length + 1 - (n + d)) q d (n + d)))
   (fun _ i _ => L.length - (intOf i).toNat)
 case atStart => exact ⟨0, 0, rfl, rfl, by omega, by omega, by omega, h, Only.refl _ _, rfl⟩
 case round =>
   obtain ⟨d, q, rfl, rfl, hq0, hq1, hnd, H, hO, HF⟩ := hrel
   have hd1 := Pro.hexV_hi (Pro.letAt L (n + d))
   have hd0 := Pro.hexV_lo (Pro.letAt L (n + d))
   have hfit := hF (n + d)
   by_cases hc : 0 < d ∧ Pro.letAt L (n + d) = 125
   · have HF1 : Hid (Pro.bracedP L len n = Pro.good q (n + d + 1)) := by
       rw [unhide HF, show L.length + 1 - (n + d) = (L.length - (n + d)) + 1 by omega]; exact Pro.bracedO_close hc.1 hc.2
     have hz : ((d : Int) == 0) = false := by simp; omega
     have hm : Pro.matchB L (n + d) { data := #[125] } = true := by rw [Pro.matchB_one L (n + d) 125 125 rfl]; simp [hc.2]
     clear hc
     go_wp2_with (go_at_call 102; refine (take_yes b L (n + d) len dp _ _ (by exact unhide H) hL (by omega) (by decide) (by assumption)).mono ?_; rintro e wq ⟨rfl, hR1, hO1⟩)
     go_ret2
     exact told_good (unhide HF1) (by rw [unhide HF1]; rfl) (hO.trans hO1) hR1
   · by_cases hbd : Pro.hexV (Pro.letAt L (n + d)) < 0 ∨ 1114111 < 16 * q + Pro.hexV (Pro.letAt L (n + d))
     · have HF1 : Hid (Pro.bracedP L len n = Pro.bad 3 (Pro.placeAt L len (n + d)) (n + d)) := by
         rw [unhide HF, show L.length + 1 - (n + d) = (L.length - (n + d)) + 1 by omega]; exact Pro.bracedO_bad hc hbd
       have HS := hide ((unhide HS).mine hO hb)
       have hcs : (((d : Int) == 0) = true) ∨ (((d : Int) == 0) = false ∧ Pro.matchB L (n + d) { data := #[125] } = false) := by
         by_cases hz : d = 0
         · left; simp [hz]
         · right; exact ⟨by simp; omega, by rw [Pro.matchB_one L (n + d) 125 125 rfl]; simp; omega⟩
       have hvs : (Pro.hexB (Pro.letAt L (n + d)) = false) ∨ (Pro.hexB (Pro.letAt L (n + d)) = true ∧ bits BinOp.or IntKind.i32 (q * 16) (Pro.hexN (Pro.letAt L (n + d))) = 16 * q + Pro.hexV (Pro.letAt L (n + d)) ∧ 1114111 < 16 * q + Pro.hexV (Pro.letAt L (n + d))) := by
         by_cases hx : Pro.hexV (Pro.letAt L (n + d)) < 0
         · left; unfold Pro.hexB; simp; omega
         · right
           refine ⟨by unfold Pro.hexB; simp; omega, ?_, by omega⟩
           have : Pro.hexN (Pro.letAt L (n + d)) = Pro.hexV (Pro.letAt L (n + d)) := by unfold Pro.hexN; rw [if_neg hx]
           rw [this]; exact pro_or4 _ _ hq0 (by omega) (by omega) (by omega)
       clear hc hbd
       rcases hcs with hz | ⟨hz, hm⟩
       all_goals
         rcases hvs with hB | ⟨hB, hor, hbig⟩
       all_goals
         go_wp2_with (first | (go_at_call 102; refine (take_no b L (n + d) len dp _ _ (by exact unhide H) hL (by omega) (by decide) (by assumption)).mono ?_; rintro e wq ⟨rfl, qq, rfl⟩) | (go_at_call 147; refine (peek_any b L (n + d) len dp _ (by first | exact unhide H | exact (unhide H).drewN _) hL (by omega)).mono ?_; rintro e wq ⟨rfl, hwq⟩; have hwr := hwq.symm; subst hwr; clear hwq) | (go_at_call 287; refine (hexValue_any _ _ (by omega) (by omega)).mono ?_; rintro e wq ⟨rfl, hwq⟩; have hwr := hwq.symm; subst hwr; clear hwq) | (go_at_call 55; refine (wrong_at b L (n + d) len dp a _ (by first | exact unhide H | exact (unhide H).drewN _) (by first | exact unhide HS | exact (unhide HS).drewN _) hL (by omega)).mono ?_; rintro e wq ⟨v, rfl, hv, hO1⟩))
       all_goals
         go_ret2
         first
           | exact told_bad (unhide HF1) (by decide) (hO.trans hO1.none) ((unhide H).keep hO1 (fun f => f) (fun _ _ f => f)) (hv.base hO.size)
           | exact told_bad (unhide HF1) (by decide) ((hO.drewN _).trans hO1.none) (((unhide H).drewN _).keep hO1 (fun f => f) (fun _ _ f => f)) (hv.base hO.size)
     · have HF1 : Hid (Pro.bracedP L len n = Pro.bracedO L len (L.length + 1 - (n + (d + 1))) (16 * q + Pro.hexV (Pro.letAt L (n + d))) (d + 1) (n + (d + 1))) := by
         have hlen : n + d < L.length := Pro.hexV_in (by omega)
         rw [unhide HF, show L.length + 1 - (n + d) = (L.length + 1 - (n + (d + 1))) + 1 by omega]; exact Pro.bracedO_good hc hbd
       have hlen : n + d < L.length := Pro.hexV_in (by omega)
       have hcs : (((d : Int) == 0) = true) ∨ (((d : Int) == 0) = false ∧ Pro.matchB L (n + d) { data := #[125] } = false) := by
         by_cases hz : d = 0
         · left; simp [hz]
         · right; exact ⟨by simp; omega, by rw [Pro.matchB_one L (n + d) 125 125 rfl]; simp; omega⟩
       have hB : Pro.hexB (Pro.letAt L (n + d)) = true := by unfold Pro.hexB; simp; omega
       have hor : bits BinOp.or IntKind.i32 (q * 16) (Pro.hexN (Pro.letAt L (n + d))) = 16 * q + Pro.hexV (Pro.letAt L (n + d)) := by
         have : Pro.hexN (Pro.letAt L (n + d)) = Pro.hexV (Pro.letAt L (n + d)) := by unfold Pro.hexN; rw [if_neg (by omega)]
         rw [this]; exact pro_or4 _ _ hq0 (by omega) (by omega) (by omega)
       have hsm : 16 * q + Pro.hexV (Pro.letAt L (n + d)) ≤ 1114111 := by omega
       have hge : 0 ≤ 16 * q + Pro.hexV (Pro.letAt L (n + d)) := by omega
       clear hc hbd
       have hc := unhide H
       obtain ⟨c0, c1, c2, c3, f1, f3⟩ := hc
       clear c0 c2 c3 f3
       rcases hcs with hz | ⟨hz, hm⟩
       all_goals
         go_wp2_with (first | (go_at_call 102; refine (take_no b L (n + d) len dp _ _ (by exact unhide H) hL (by omega) (by decide) (by assumption)).mono ?_; rintro e wq ⟨rfl, qq, rfl⟩) | (go_at_call 147; refine (peek_any b L (n + d) len dp _ (by first | exact unhide H | exact (unhide H).drewN _) hL (by omega)).mono ?_; rintro e wq ⟨rfl, hwq⟩; have hwr := hwq.symm; subst hwr; clear hwq) | (go_at_call 287; refine (hexValue_any _ _ (by omega) (by omega)).mono ?_; rintro e wq ⟨rfl, hwq⟩; have hwr := hwq.symm; subst hwr; clear hwq))
       all_goals
         exact ⟨⟨d + 1, 16 * q + Pro.hexV (Pro.letAt L (n + d)), by go_num, rfl, hge, hsm, by omega, (by first | exact (unhide H).setN _ _ (by omega) | exact ((unhide H).drewN _).setN _ _ (by omega)), (by first | exact hO.mine _ _ | exact (hO.drewN _).mine _ _), HF1⟩, by simp [intOf]; omega⟩
namespace Pro
theorem hexO_v (L : List (Int × Int)) (len : Int) : ∀ (f : Nat) (c : Int) (n : Nat), 0 ≤ c → c < (16 : Int) ^ (4 - f) → f ≤ 4 → 0 ≤ (hexO L len f c n).v ∧ (hexO L len f c n).v ≤ 65535
 | 0, c, n, h0, h1, _ => by simp only [hexO, good]; simp at h1; omega
 | f + 1, c, n, h0, h1, h2 => by
   have hp : (16 : Int) ^ (4 - f) = 16 * (16 : Int) ^ (4 - (f + 1)) := by rw [show 4 - f = (4 - (f + 1)) + 1 by omega, Int.pow_succ]; omega
   have hd := hexV_hi (letAt L n)
   by_cases hb : hexV (letAt L n) < 0
   · rw [hexO_bad hb]; simp only [bad]; omega
   · rw [hexO_good (by omega)]
     exact hexO_v L len f _ (n + 1) (by omega) (by omega) (by omega)
theorem hexO_n (L : List (Int × Int)) (len : Int) : ∀ (f : Nat) (c : Int) (n : Nat), n ≤ L.length → n ≤ (hexO L len f c n).n ∧ (hexO L len f c n).n ≤ L.length ∧ ((hexO L len f c n).k = 0 → (hexO L len f c n).n = n + f)
 | 0, c, n, h => by simp only [hexO, good]; omega
 | f + 1, c, n, h => by
   by_cases hb : hexV (letAt L n) < 0
   · rw [hexO_bad hb]; simp only [bad]; omega
   · rw [hexO_good (by omega)]
     have hlt : n < L.length := hexV_in (by omega)
     have := hexO_n L len f (16 * c + hexV (letAt L n)) (n + 1) (by omega)
     omega
theorem lowV_bd {L : List (Int × Int)} {len : Int} {n : Nat} (h : 0 ≤ lowV L len n) : 56320 ≤ lowV L len n ∧ lowV L len n ≤ 57343 := by
 unfold lowV at h ⊢
 split at h
 · rename_i hh; rw [if_pos hh]; omega
 · omega
end Pro
set_option maxHeartbeats 800000 in
theorem secondHalf_any (b : Nat) (L : List (Int × Int)) (n : Nat) (len dp : Int) (a : Nat → Addr) (w : World) (h : RdAt w b L n len dp) (hS : Sents w a) (hb : 10 ≤ b) (hL : L.length ≤ 400) (hn : n ≤ L.length) (hF : Pro.Fit L) :
   Calls Tryz.prog 288 #[.pointer (some ⟨b, 0, none⟩)] w fun x w' => Only (Mine b) w w' ∧ ((0 ≤ Pro.lowV L len n ∧ x = .returned (.tuple #[.int .i32 (Pro.lowV L len n), .bool true]) ∧ RdAt w' b L (n + 6) len dp) ∨ (Pro.lowV L len n = -1 ∧ x = .returned (.tuple #[.int .i32 0, .bool false]) ∧ RdAt w' b L n len dp)) := by
 have H := hide h
 have HS := hide hS
 clear hS
 obtain ⟨c0, c1, c2, c3, f1, f3⟩ := h
 clear c0 c2 c3 f3
 cases hm : Pro.matchB L n { data := #[92, 117] }
 · have hv : Hid (Pro.lowV L len n = -1) := by
     rw [Pro.matchB_two L n 92 117 92 117 rfl rfl] at hm
     simp only [decide_eq_false_iff_not] at hm
     unfold Pro.lowV; rw [if_neg (fun hh => hm ⟨hh.1, hh.2.1⟩)]; rfl
   go_enter Tryz.func288, Tryz.ntmps288
   go_wp2_with (go_at_call 102; refine (take_no b L (n) len dp _ _ (by exact unhide H) hL (by omega) (by decide) (by assumption)).mono ?_; rintro e wq ⟨rfl, qq, rfl⟩)
   go_ret2
   exact ⟨((Only.refl _ _).drewN _).mine _ _, .inr ⟨unhide hv, rfl, ((unhide H).drewN _).setN _ _ rfl⟩⟩
 · have hmm : Pro.letAt L n = 92 ∧ Pro.letAt L (n + 1) = 117 := by
     rw [Pro.matchB_two L n 92 117 92 117 rfl rfl] at hm
     simpa using hm
   have hn2 : n + 1 < L.length := Pro.letAt_in' (by omega)
   have hvb := Pro.hexO_v L len 4 0 (n + 2) (by omega) (by decide) (by omega)
   have hnb := Pro.hexO_n L len 4 0 (n + 2) (by omega)
   by_cases hk : (Pro.hexO L len 4 0 (n + 2)).k = 0
   · by_cases hin : 56320 ≤ (Pro.hexO L len 4 0 (n + 2)).v ∧ (Pro.hexO L len 4 0 (n + 2)).v ≤ 57343
     · have hv : Hid (Pro.lowV L len n = (Pro.hexO L len 4 0 (n + 2)).v) := by
         unfold Pro.lowV; rw [if_pos ⟨hmm.1, hmm.2, hk, hin.1, hin.2⟩]; rfl
       obtain ⟨hi1, hi2⟩ := hin
       clear hmm
       go_enter Tryz.func288, Tryz.ntmps288
       go_wp2_with (first | (go_at_call 102; refine (take_yes b L (n) len dp _ _ (by exact unhide H) hL (by omega) (by decide) (by assumption)).mono ?_; rintro e w1 ⟨rfl, hR1, hO1⟩; have hR1 : RdAt w1 b L ((n) + 2) len dp := hR1; have H1 := hide hR1); (have HS := hide ((unhide HS).mine hO1 hb)) | (go_at_call 271; refine (hexNumber_any b L (n + 2) len dp a 4 _ (by exact unhide H1) (by exact unhide HS) hb hL (by omega) hF (by omega)).mono ?_; rintro e w2 ⟨hO2, hR2, hT2⟩; obtain rfl := told_yes hT2 hk; have H2 := hide hR2; have c12 := hR2.c1; have f12 := hR2.f1))
       go_ret2
       exact ⟨hO1.trans hO2, .inl ⟨by rw [unhide hv]; omega, by rw [unhide hv]; rfl, by have := hnb.2.2 hk; rw [this] at hR2; exact hR2⟩⟩
     · have hv : Hid (Pro.lowV L len n = -1) := by
         unfold Pro.lowV; rw [if_neg (fun hh => hin ⟨hh.2.2.2.1, hh.2.2.2.2⟩)]; rfl
       clear hmm
       go_enter Tryz.func288, Tryz.ntmps288
       go_wp2_with (first | (go_at_call 102; refine (take_yes b L (n) len dp _ _ (by exact unhide H) hL (by omega) (by decide) (by assumption)).mono ?_; rintro e w1 ⟨rfl, hR1, hO1⟩; have hR1 : RdAt w1 b L ((n) + 2) len dp := hR1; have H1 := hide hR1); (have HS := hide ((unhide HS).mine hO1 hb)) | (go_at_call 271; refine (hexNumber_any b L (n + 2) len dp a 4 _ (by exact unhide H1) (by exact unhide HS) hb hL (by omega) hF (by omega)).mono ?_; rintro e w2 ⟨hO2, hR2, hT2⟩; obtain rfl := told_yes hT2 hk; have H2 := hide hR2; have c12 := hR2.c1; have f12 := hR2.f1))
       all_goals first
         | (exfalso; exact hin ⟨by omega, by omega⟩)
         | (go_ret2; exact ⟨(hO1.trans hO2).mine _ _, .inr ⟨unhide hv, rfl, hR2.setN _ _ rfl⟩⟩)
   · have hv : Hid (Pro.lowV L len n = -1) := by
       unfold Pro.lowV; rw [if_neg (fun hh => hk hh.2.2.1)]; rfl
     clear hmm
     go_enter Tryz.func288, Tryz.ntmps288
     go_wp2_with (first | (go_at_call 102; refine (take_yes b L (n) len dp _ _ (by exact unhide H) hL (by omega) (by decide) (by assumption)).mono ?_; rintro e w1 ⟨rfl, hR1, hO1⟩; have hR1 : RdAt w1 b L ((n) + 2) len dp := hR1; have H1 := hide hR1); (have HS := hide ((unhide HS).mine hO1 hb)) | (go_at_call 271; refine (hexNumber_any b L (n + 2) len dp a 4 _ (by exact unhide H1) (by exact unhide HS) hb hL (by omega) hF (by omega)).mono ?_; rintro e w2 ⟨hO2, hR2, hT2⟩; obtain ⟨v2, rfl, hv2⟩ := told_no hT2 hk; obtain ⟨g2, hg2⟩ := hv2.form; subst hg2; have H2 := hide hR2; have c12 := hR2.c1; have f12 := hR2.f1))
     go_ret2
     exact ⟨(hO1.trans hO2).mine _ _, .inr ⟨unhide hv, rfl, hR2.setN _ _ rfl⟩⟩
theorem second_yes {v : Int} {x y z : Ending} {A B : Prop} (h : (0 ≤ v ∧ x = y ∧ A) ∨ (v = -1 ∧ x = z ∧ B)) (hv : 0 ≤ v) : x = y ∧ A := by
 rcases h with ⟨_, h⟩ | ⟨h, _⟩
 · exact h
 · omega
theorem second_no {v : Int} {x y z : Ending} {A B : Prop} (h : (0 ≤ v ∧ x = y ∧ A) ∨ (v = -1 ∧ x = z ∧ B)) (hv : ¬ 0 ≤ v) : x = z ∧ B := by
 rcases h with ⟨h, _⟩ | ⟨_, h⟩
 · exact absurd h hv
 · exact h
set_option maxHeartbeats 800000 in
theorem unicodeNumber_any (b : Nat) (L : List (Int × Int)) (n : Nat) (len dp : Int) (a : Nat → Addr) (w : World) (h : RdAt w b L n len dp) (hS : Sents w a) (hb : 10 ≤ b) (hL : L.length ≤ 400) (hn : n ≤ L.length) (hF : Pro.Fit L) :
   Calls Tryz.prog 273 #[.pointer (some ⟨b, 0, none⟩)] w (Tells b L len dp a w (Pro.unicodeO L len n) (.int .i32 (Pro.unicodeO L len n).v) (.int .i32 0)) := by
 have H := hide h
 have HS := hide hS
 clear h hS
 have hvb := Pro.hexO_v L len 4 0 n (by omega) (by decide) (by omega)
 have hnb := Pro.hexO_n L len 4 0 n (by omega)
 by_cases hk : (Pro.hexO L len 4 0 n).k = 0
 · by_cases hin : (Pro.hexO L len 4 0 n).v < 55296 ∨ 56319 < (Pro.hexO L len 4 0 n).v
   · have HO : Hid (Pro.unicodeO L len n = Pro.hexO L len 4 0 n) := by unfold Pro.unicodeO; rw [if_pos (.inr hin)]; rfl
     go_enter Tryz.func273, Tryz.ntmps273
     go_wp2_with (first | (go_at_call 271; refine (hexNumber_any b L n len dp a 4 _ (by exact unhide H) (by exact unhide HS) hb hL (by omega) hF (by omega)).mono ?_; rintro e w2 ⟨hO2, hR2, hT2⟩; obtain rfl := told_yes hT2 hk; have H2 := hide hR2; have c12 := hR2.c1; have f12 := hR2.f1))
     all_goals first
       | (exfalso; omega)
       | (go_ret2; rw [unhide HO]; exact ⟨hO2, hR2, .inl ⟨hk, rfl⟩⟩)
   · have hn4 := hnb.2.2 hk
     have hle4 : n + 4 ≤ L.length := by omega
     clear hnb
     by_cases hlow : 0 ≤ Pro.lowV L len (n + 4)
     · have HO : Hid (Pro.unicodeO L len n = Pro.good (65536 + ((Pro.hexO L len 4 0 n).v - 55296) * 1024 + (Pro.lowV L len (n + 4) - 56320)) (n + 4 + 6)) := by
         unfold Pro.unicodeO; rw [if_neg (by omega), hn4, if_pos hlow]; rfl
       have hlb := Pro.lowV_bd hlow
       go_enter Tryz.func273, Tryz.ntmps273
       go_wp2_with (first | (go_at_call 271; refine (hexNumber_any b L n len dp a 4 _ (by exact unhide H) (by exact unhide HS) hb hL (by omega) hF (by omega)).mono ?_; rintro e w2 ⟨hO2, hR2, hT2⟩; obtain rfl := told_yes hT2 hk; have H2 := hide hR2; have c12 := hR2.c1; have f12 := hR2.f1); (have HS := hide ((unhide HS).mine hO2 hb)) | (go_at_call 288; refine (secondHalf_any b L (n + 4) len dp a _ (by have := unhide H2; rw [hn4] at this; exact this) (unhide HS) hb hL (by omega) hF).mono ?_; rintro e w3 ⟨hO3, hT3⟩; obtain ⟨rfl, hR3⟩ := second_yes hT3 (by omega)))
       all_goals first
         | (exfalso; omega)
         | (go_ret2; exact told_good (unhide HO) (by rw [unhide HO]; rfl) (hO2.trans hO3) hR3)
     · have HO : Hid (Pro.unicodeO L len n = Pro.hexO L len 4 0 n) := by unfold Pro.unicodeO; rw [if_neg (by omega), hn4, if_neg hlow]; rfl
       go_enter Tryz.func273, Tryz.ntmps273
       go_wp2_with (first | (go_at_call 271; refine (hexNumber_any b L n len dp a 4 _ (by exact unhide H) (by exact unhide HS) hb hL (by omega) hF (by omega)).mono ?_; rintro e w2 ⟨hO2, hR2, hT2⟩; obtain rfl := told_yes hT2 hk; have H2 := hide hR2; have c12 := hR2.c1; have f12 := hR2.f1); (have HS := hide ((unhide HS).mine hO2 hb)) | (go_at_call 288; refine (secondHalf_any b L (n + 4) len dp a _ (by have := unhide H2; rw [hn4] at this; exact this) (unhide HS) hb hL (by omega) hF).mono ?_; rintro e w3 ⟨hO3, hT3⟩; obtain ⟨rfl, hR3⟩ := second_no hT3 (by omega)))
       all_goals first
         | (exfalso; omega)
         | (go_ret2; rw [unhide HO]; exact ⟨hO2.trans hO3, (by rw [hn4]; exact hR3), .inl ⟨hk, rfl⟩⟩)
 · have HO : Hid (Pro.unicodeO L len n = Pro.hexO L len 4 0 n) := by unfold Pro.unicodeO; rw [if_pos (.inl hk)]; rfl
   go_enter Tryz.func273, Tryz.ntmps273
   go_wp2_with (first | (go_at_call 271; refine (hexNumber_any b L n len dp a 4 _ (by exact unhide H) (by exact unhide HS) hb hL (by omega) hF (by omega)).mono ?_; rintro e w2 ⟨hO2, hR2, hT2⟩; obtain ⟨v2, rfl, hv2⟩ := told_no hT2 hk; obtain ⟨g2, hg2⟩ := hv2.form; subst hg2; have H2 := hide hR2; have c12 := hR2.c1; have f12 := hR2.f1))
   all_goals
     go_ret2
     rw [unhide HO]
     exact ⟨hO2, hR2, .inr ⟨hk, _, rfl, hv2⟩⟩
set_option maxHeartbeats 2000000 in
set_option maxRecDepth 1000000 in
theorem indexByte_any (s : ByteArray) (c : Int) (w : World) :
   Calls Tryz.prog 283 #[.string s, .int .u8 c] w fun e w' => e = .returned (.int .i64 (firstIdx s c.toNat.toUInt8)) ∧ w' = w := by
 rw [Lib.firstIdx_eq]
 go_enter Tryz.func283, Tryz.ntmps283
 go_wp2
 rw [run_callFunc_extern Tryz.func293 (by kernel_rfl) (by kernel_rfl) (by kernel_rfl) (e := Extern.BytealgIndexByte.indexByte) (by kernel_rfl), Lib.run_indexByteString]
 simp only [Result.andThen]
 rw [Oper.upon_value]
 go_wp2
 go_ret
 exact ⟨rfl, rfl⟩
set_option maxHeartbeats 2000000 in
set_option maxRecDepth 1000000 in
theorem indexRune_none (s : ByteArray) (r : Int) (w : World) (h1 : r < 0) :
   Calls Tryz.prog 267 #[.string s, .int .i32 r] w fun e w' => e = .returned (.int .i64 (-1)) ∧ w' = w := by
 go_enter Tryz.func267, Tryz.ntmps267
 go_wp2
 go_ret
 exact ⟨rfl, rfl⟩
set_option maxHeartbeats 2000000 in
set_option maxRecDepth 1000000 in
theorem indexRune_ascii (s : ByteArray) (r : Int) (w : World) (h0 : 0 ≤ r) (h1 : r < 128) :
   Calls Tryz.prog 267 #[.string s, .int .i32 r] w fun e w' => e = .returned (.int .i64 (firstIdx s r.toNat.toUInt8)) ∧ w' = w := by
 go_enter Tryz.func267, Tryz.ntmps267
 go_wp2_with (go_at_call 283; refine (indexByte_any _ _ _).mono ?_; rintro e wq ⟨rfl, hwq⟩; have hwr := hwq.symm; subst hwr; clear hwq)
 go_ret
 exact ⟨rfl, rfl⟩
set_option maxHeartbeats 2000000 in
set_option maxRecDepth 1000000 in
theorem indexRune_high (s : ByteArray) (r : Int) (w : World) (h0 : 128 ≤ r) (h1 : r ≤ 1114111) (h2 : r ≠ 65533) (hs : ∀ b ∈ s.data.toList, b.toNat < 128) (_hz : s.size ≤ 20) :
   Calls Tryz.prog 267 #[.string s, .int .i32 r] w fun e w' => e = .returned (.int .i64 (-1)) ∧ Only (fun _ => False) w w' := by
 by_cases hv : (0 ≤ r ∧ r < 55296) ∨ (57343 < r ∧ r ≤ 1114111)
 · have hval : Utf8.valid r = true := by rw [validRune_eq]; unfold validRune; exact decide_eq_true hv
   obtain ⟨e1, e2, e3⟩ := encode_facts r hval h0
   have e3 : 128 ≤ byteAt (Utf8.encode r) ((Utf8.encode r).size - 1) := by
     have hh : (Utf8.encode r).size - 1 < (Utf8.encode r).size := by omega
     rw [byteAt_in _ _ hh]
     have := e3 hh
     omega
   have e4 := byteAt_hi (Utf8.encode r) ((Utf8.encode r).size - 1)
   generalize hR : Utf8.encode r = rs at *
   have hx2 : ∀ wx, (Instr.index 9 (.string rs) (.int .i64 ((rs.size : Int) - 1))).run Tryz.prog wx = .ok (.int .u8 (byteAt rs (rs.size - 1))) wx := fun wx => pro_index rs _ (by omega) _ (by omega) wx
   by_cases hlen : rs.size - 1 < s.size
   · have hx1 : ∀ wx, (Instr.index 9 (.string s) (.int .i64 ((rs.size : Int) - 1))).run Tryz.prog wx = .ok (.int .u8 (byteAt s (rs.size - 1))) wx := fun wx => pro_index s _ hlen _ (by omega) wx
     have e5 : byteAt s (rs.size - 1) < 128 := by
       rw [byteAt_in s _ hlen]
       have := hs (s[rs.size - 1]) (by exact Array.getElem_mem_toList (xs := s.data) hlen)
       omega
     have hne : (byteAt s (rs.size - 1) != byteAt rs (rs.size - 1)) = true := by simp; omega
     have hfi : ∀ a e, firstIdx (s.extract a e) (byteAt rs (rs.size - 1)).toNat.toUInt8 = -1 := fun a e => firstIdx_ascii s a e _ hs (by simp; omega)
     have hwr : IntKind.i64.wrap ((rs.size : Int) - 1 + 1) = (rs.size : Int) := by rw [wrap_small _ (by omega) (by omega)]; omega
     have Hs := hide hs
     clear hs hval
     go_enter Tryz.func267, Tryz.ntmps267
     rcases hv with ⟨hv1, hv2⟩ | ⟨hv1, hv2⟩
     all_goals
       go_wp2_with go_in
       go_step3
       go_wp2
       refine wp_loop_rounds 1 ?_
       rw [rounds_succ]
       go_wp2
       go_step3
       go_wp2
       go_quiet (fail)
       go_wp2
       go_quiet ((go_at_call 283; exact (indexByte_any _ _ _).mono (by rintro e w'' ⟨rfl, rfl⟩; exact ⟨rfl, _, rfl⟩)))
       go_wp2
       rw [Exit.noGoto_ret]
       go_wp2
       rw [Exit.noGoto_ret]
       go_wp2
       go_ret
       exact ⟨rfl, (Only.refl _ _).drewN _⟩
   · have Hs := hide hs
     clear hs hval
     go_enter Tryz.func267, Tryz.ntmps267
     rcases hv with ⟨hv1, hv2⟩ | ⟨hv1, hv2⟩
     all_goals
       go_wp2_with go_in
       go_step3
       go_wp2
       refine wp_loop_rounds 1 ?_
       rw [rounds_succ]
       go_wp2
       rw [Exit.noGoto_ret]
       go_wp2
       go_ret
       exact ⟨rfl, Only.refl _ _⟩
 · go_enter Tryz.func267, Tryz.ntmps267
   go_wp2
   all_goals first
     | (exfalso; omega)
     | (go_ret; exact ⟨rfl, Only.refl _ _⟩)
set_option maxHeartbeats 2000000 in
set_option maxRecDepth 1000000 in
theorem indexRune_error (s : ByteArray) (w : World) (hs : ∀ b ∈ s.data.toList, b.toNat < 128) (_hz : s.size ≤ 20) :
   Calls Tryz.prog 267 #[.string s, .int .i32 65533] w fun e w' => e = .returned (.int .i64 (-1)) ∧ Only (fun _ => False) w w' := by
 go_enter Tryz.func267, Tryz.ntmps267
 go_wp2
 go_loopw [4] (fun _ wr => ∃ pos : Nat, wr = w.iter s pos) (fun _ wr => s.size - wr.iterPos w.heap.size)
 case atStart => exact ⟨0, rfl⟩
 case round =>
   obtain ⟨pos, rfl⟩ := hrel
   by_cases hp : pos < s.size
   · have ha : (s[pos]'hp).toNat < 128 := hs _ (by exact Array.getElem_mem_toList (xs := s.data) hp)
     have hnx : ∀ ty, (Instr.next (.pointer (some ⟨w.heap.size, 0, none⟩)) true ty).run Tryz.prog (w.iter s pos) = _ := fun ty => run_next_ascii w s pos ty hp ha
     have hne : (((s[pos]'hp).toNat : Int) == 65533) = false := by simp; omega
     have Hs := hide hs
     clear hs
     go_wp2
     go_roundw
     case rel => exact ⟨pos + 1, rfl⟩
     case measure => simp; omega
   · have hnx : ∀ ty, (Instr.next (.pointer (some ⟨w.heap.size, 0, none⟩)) true ty).run Tryz.prog (w.iter s pos) = _ := fun ty => run_next_end w s pos ty hp
     have Hs := hide hs
     clear hs
     go_wp2
     go_ret
     exact ⟨rfl, (Only.refl _ _).alloc _⟩
def Pro.inB (s : ByteArray) (r : Int) : Bool := s.data.toList.any fun b => decide ((b.toNat : Int) = r)
theorem inB_low (s : ByteArray) (r : Int) (h0 : 0 ≤ r) (h1 : r < 128) : decide (0 ≤ firstIdx s r.toNat.toUInt8) = Pro.inB s r := by
 rw [firstIdx_nonneg]
 unfold Pro.inB
 congr 1
 funext b
 have hb := b.toNat_lt
 by_cases h : (b.toNat : Int) = r
 · have e : b = r.toNat.toUInt8 := by
     apply UInt8.toNat_inj.1
     rw [← h]; simp
   rw [beq_iff_eq.2 e, decide_eq_true h]
 · rw [decide_eq_false h, beq_eq_false_iff_ne]
   intro e
   apply h
   rw [e]
   simp
   omega
theorem inB_high (s : ByteArray) (r : Int) (hs : ∀ b ∈ s.data.toList, b.toNat < 128) (h : r < 0 ∨ 128 ≤ r) : Pro.inB s r = false := by
 unfold Pro.inB
 rw [List.any_eq_false]
 intro b hb
 have := hs b hb
 simp; omega
theorem indexRune_any (s : ByteArray) (r : Int) (w : World) (h1 : r ≤ 1114111) (hs : ∀ b ∈ s.data.toList, b.toNat < 128) (hz : s.size ≤ 20) :
   Calls Tryz.prog 267 #[.string s, .int .i32 r] w fun e w' => (∃ k, e = .returned (.int .i64 k) ∧ decide (0 ≤ k) = Pro.inB s r) ∧ Only (fun _ => False) w w' := by
 by_cases h0 : r < 0
 · exact (indexRune_none s r w h0).mono (by rintro e w1 ⟨rfl, rfl⟩; exact ⟨⟨_, rfl, (inB_high s r hs (.inl h0)).symm⟩, Only.refl _ _⟩)
 · by_cases h2 : r < 128
   · exact (indexRune_ascii s r w (by omega) h2).mono (by rintro e w1 ⟨rfl, rfl⟩; exact ⟨⟨_, rfl, inB_low s r (by omega) h2⟩, Only.refl _ _⟩)
   · by_cases h3 : r = 65533
     · subst h3
       exact (indexRune_error s w hs hz).mono (by rintro e w1 ⟨rfl, hO⟩; exact ⟨⟨_, rfl, (inB_high s _ hs (.inr (by omega))).symm⟩, hO⟩)
     · exact (indexRune_high s r w (by omega) h1 h3 hs hz).mono (by rintro e w1 ⟨rfl, hO⟩; exact ⟨⟨_, rfl, (inB_high s _ hs (.inr (by omega))).symm⟩, hO⟩)
set_option maxHeartbeats 2000000 in
theorem contains_any (s : ByteArray) (r : Int) (w : World) (h1 : r ≤ 1114111) (hs : ∀ b ∈ s.data.toList, b.toNat < 128) (hz : s.size ≤ 20) :
   Calls Tryz.prog 244 #[.string s, .int .i32 r] w fun e w' => e = .returned (.bool (Pro.inB s r)) ∧ Only (fun _ => False) w w' := by
 have HS := hide hs
 clear hs
 go_enter Tryz.func244, Tryz.ntmps244
 go_wp2_with (go_at_call 267; refine (indexRune_any s r _ h1 (unhide HS) hz).mono ?_; rintro e w1 ⟨⟨k, rfl, hk⟩, hO⟩)
 go_ret
 exact ⟨by rw [← hk]; rfl, hO⟩
theorem inB_sign (r : Int) : Pro.inB { data := #[94, 36, 92, 46, 42, 43, 63, 40, 41, 91, 93, 123, 125, 124, 47] } r = Pro.sign r := rfl
set_option maxHeartbeats 2000000 in
theorem shortNumber_any (c : Int) (w : World) (h1 : c ≤ 1114111) :
   Calls Tryz.prog 268 #[.int .i32 c] w fun x w' => x = .returned (.tuple #[.int .i32 (Pro.shortV c), .bool (Pro.shortB c)]) ∧ Only (fun _ => False) w w' := by
 by_cases hc : 0 ≤ Pro.ctlV c
 · have HV : Hid (Pro.shortV c = Pro.ctlV c ∧ Pro.shortB c = true) := ⟨by unfold Pro.shortV; rw [if_pos hc], by unfold Pro.shortB; simp [hc]⟩
   have hcs : c = 116 ∨ c = 110 ∨ c = 118 ∨ c = 102 ∨ c = 114 := by unfold Pro.ctlV at hc; (repeat' split at hc) <;> omega
   clear hc h1
   rcases hcs with rfl | rfl | rfl | rfl | rfl
   all_goals
     go_enter Tryz.func268, Tryz.ntmps268
     go_wp2_with fail
     go_ret2
     rw [HV.out.1, HV.out.2]
     exact ⟨rfl, Only.refl _ _⟩
 · have HV : Hid (Pro.shortV c = c ∧ Pro.shortB c = Pro.sign c) := ⟨by unfold Pro.shortV; rw [if_neg hc], by unfold Pro.shortB; simp [hc]⟩
   have hcs : (c == 116) = false ∧ (c == 110) = false ∧ (c == 118) = false ∧ (c == 102) = false ∧ (c == 114) = false := by
     unfold Pro.ctlV at hc
     (repeat' split at hc) <;> simp <;> omega
   obtain ⟨k1, k2, k3, k4, k5⟩ := hcs
   clear hc
   go_enter Tryz.func268, Tryz.ntmps268
   go_wp2_with (go_at_call 244; refine (contains_any _ _ _ h1 (by decide) (by decide)).mono ?_; rintro e w1 ⟨rfl, hO⟩)
   go_ret2
   rw [HV.out.1, HV.out.2, ← inB_sign]
   exact ⟨rfl, hO⟩
theorem Tells.yes {b : Nat} {L : List (Int × Int)} {len dp : Int} {a : Nat → Addr} {w w' : World} {o : Pro.Out} {yes no : Value} (hk : o.k = 0) (hO : Only (Mine b) w w') (hR : RdAt w' b L o.n len dp) : Tells b L len dp a w o yes no (.returned (.tuple #[yes, .nilIface])) w' := ⟨hO, hR, .inl ⟨hk, rfl⟩⟩
theorem Tells.no {b : Nat} {L : List (Int × Int)} {len dp : Int} {a : Nat → Addr} {w w' : World} {o : Pro.Out} {yes no v : Value} (hk : o.k ≠ 0) (hO : Only (Mine b) w w') (hR : RdAt w' b L o.n len dp) (hv : FaultAt w' w.heap.size v (sentV a o.k) o.p) : Tells b L len dp a w o yes no (.returned (.tuple #[no, v])) w' := ⟨hO, hR, .inr ⟨hk, v, rfl, hv⟩⟩
theorem zero_tells (b : Nat) (L : List (Int × Int)) (n : Nat) (len dp : Int) (a : Nat → Addr) (w : World) (h : RdAt w b L n len dp) (hS : Sents w a) (_hb : 10 ≤ b) (hL : L.length ≤ 400) (hn : n ≤ L.length) (_hF : Pro.Fit L) :
   Calls Tryz.prog 269 #[.pointer (some ⟨b, 0, none⟩)] w (Tells b L len dp a w (Pro.zeroO L len n) (.int .i32 (Pro.zeroO L len n).v) (.int .i32 0)) := by
 refine (zero_any b L n len dp a w h hS hL hn).mono ?_
 rintro e w1 ⟨hO, ⟨hd, rfl⟩ | ⟨hd, v, rfl, hv⟩⟩
 · have e1 : Pro.zeroO L len n = Pro.good 0 n := by unfold Pro.zeroO Pro.dig; rw [hd]; rfl
   exact told_good e1 (by rw [e1]; rfl) hO.none (h.keep hO (fun f => f) (fun _ _ f => f))
 · have e1 : Pro.zeroO L len n = Pro.bad 3 (Pro.placeAt L len n) n := by unfold Pro.zeroO Pro.dig; rw [hd]; rfl
   exact told_bad e1 (by decide) hO.none (h.keep hO (fun f => f) (fun _ _ f => f)) hv
namespace Pro
theorem zeroO_n (L : List (Int × Int)) (len : Int) (n : Nat) : (zeroO L len n).n = n := by unfold zeroO; split <;> rfl
end Pro
set_option maxHeartbeats 2000000 in
theorem escapedNumber_any (b : Nat) (L : List (Int × Int)) (n : Nat) (len dp : Int) (a : Nat → Addr) (w : World) (h : RdAt w b L n len dp) (hS : Sents w a) (hb : 10 ≤ b) (hL : L.length ≤ 400) (hn : n ≤ L.length) (hF : Pro.Fit L) :
   Calls Tryz.prog 245 #[.pointer (some ⟨b, 0, none⟩)] w (Tells b L len dp a w (Pro.numO L len n) (.int .i32 (Pro.numO L len n).v) (.int .i32 0)) := by
 have H := hide h
 have HS := hide hS
 clear h hS
 have hfit := hF n
 cases hsh : Pro.shortB (Pro.letAt L n)
 · by_cases q0 : Pro.letAt L n = 48
   · have HO : Hid (Pro.numO L len n = Pro.zeroO L len (n + 1)) := by unfold Pro.numO; rw [hsh]; simp only [Bool.false_eq_true, if_false]; rw [if_pos q0]; rfl
     have hlt : n < L.length := Pro.letAt_in' (by omega)
     have m0 : Pro.matchB L n { data := #[48] } = true := by rw [Pro.matchB_one L n 48 48 rfl]; simp; omega
     clear q0
     by_cases hk : (Pro.zeroO L len (n + 1)).k = 0
     · go_enter Tryz.func245, Tryz.ntmps245
       go_wp2_with (first | (go_at_call 147; refine (peek_any b L (n) len dp _ (by exact unhide H) hL (by omega)).mono ?_; rintro e wq ⟨rfl, hwq⟩; have hwr := hwq.symm; subst hwr; clear hwq) | (go_at_call 268; refine (shortNumber_any _ _ (by omega)).mono ?_; rintro e w1 ⟨rfl, hOs⟩; have H := hide ((unhide H).keep hOs (fun f => f) (fun _ _ f => f)); have HS := hide ((unhide HS).keep hOs (fun _ _ f => f)); have c1 := (unhide H).c1; have f1 := (unhide H).f1) | (go_at_call 102; refine (take_no b L (n) len dp _ _ (by exact unhide H) hL (by omega) (by decide) (by assumption)).mono ?_; rintro e wq ⟨rfl, qq, rfl⟩) | (go_at_call 102; refine (take_yes b L (n) len dp _ _ (by exact unhide H) hL (by omega) (by decide) (by assumption)).mono ?_; rintro e w3 ⟨rfl, hR3, hO3⟩; have hR3 : RdAt w3 b L ((n) + 1) len dp := hR3; have H3 := hide hR3); (have HS := hide ((unhide HS).mine (by first | exact hO3 | exact ((Only.refl _ _).drewN _).trans hO3) hb)) | (go_at_call 269; refine (zero_tells b L (n + 1) len dp a _ (by exact unhide H3) (by exact unhide HS) hb hL (by omega) hF).mono ?_; rintro e w4 ⟨hO4, hR4, hT4⟩; obtain rfl := told_yes hT4 hk; have H4 := hide hR4; have c14 := hR4.c1; have f14 := hR4.f1))
       go_ret2
       rw [unhide HO]
       exact Tells.yes hk (by first | exact (hOs.none.trans hO3).trans hO4 | exact ((hOs.none.drewN _).trans hO3).trans hO4) hR4
     · go_enter Tryz.func245, Tryz.ntmps245
       go_wp2_with (first | (go_at_call 147; refine (peek_any b L (n) len dp _ (by exact unhide H) hL (by omega)).mono ?_; rintro e wq ⟨rfl, hwq⟩; have hwr := hwq.symm; subst hwr; clear hwq) | (go_at_call 268; refine (shortNumber_any _ _ (by omega)).mono ?_; rintro e w1 ⟨rfl, hOs⟩; have H := hide ((unhide H).keep hOs (fun f => f) (fun _ _ f => f)); have HS := hide ((unhide HS).keep hOs (fun _ _ f => f)); have c1 := (unhide H).c1; have f1 := (unhide H).f1) | (go_at_call 102; refine (take_no b L (n) len dp _ _ (by exact unhide H) hL (by omega) (by decide) (by assumption)).mono ?_; rintro e wq ⟨rfl, qq, rfl⟩) | (go_at_call 102; refine (take_yes b L (n) len dp _ _ (by exact unhide H) hL (by omega) (by decide) (by assumption)).mono ?_; rintro e w3 ⟨rfl, hR3, hO3⟩; have hR3 : RdAt w3 b L ((n) + 1) len dp := hR3; have H3 := hide hR3); (have HS := hide ((unhide HS).mine (by first | exact hO3 | exact ((Only.refl _ _).drewN _).trans hO3) hb)) | (go_at_call 269; refine (zero_tells b L (n + 1) len dp a _ (by exact unhide H3) (by exact unhide HS) hb hL (by omega) hF).mono ?_; rintro e w4 ⟨hO4, hR4, hT4⟩; obtain ⟨v4, rfl, hv4⟩ := told_no hT4 hk; obtain ⟨g4, hg4⟩ := hv4.form; subst hg4; have H4 := hide hR4; have c14 := hR4.c1; have f14 := hR4.f1))
       go_ret2
       rw [unhide HO]
       exact Tells.no hk (by first | exact (hOs.none.trans hO3).trans hO4 | exact ((hOs.none.drewN _).trans hO3).trans hO4) hR4 (hv4.base (by first | exact (hOs.none.trans hO3).size | exact ((hOs.none.drewN _).trans hO3).size))
   · by_cases q1 : Pro.letAt L n = 99
     · have HO : Hid (Pro.numO L len n = Pro.controlO L len (n + 1)) := by unfold Pro.numO; rw [hsh]; simp only [Bool.false_eq_true, if_false]; rw [if_neg q0]; rw [if_pos q1]; rfl
       have hlt : n < L.length := Pro.letAt_in' (by omega)
       have m0 : Pro.matchB L n { data := #[48] } = false := by rw [Pro.matchB_one L n 48 48 rfl]; simp; omega
       have m1 : Pro.matchB L n { data := #[99] } = true := by rw [Pro.matchB_one L n 99 99 rfl]; simp; omega
       clear q0 q1
       by_cases hk : (Pro.controlO L len (n + 1)).k = 0
       · go_enter Tryz.func245, Tryz.ntmps245
         go_wp2_with (first | (go_at_call 147; refine (peek_any b L (n) len dp _ (by exact unhide H) hL (by omega)).mono ?_; rintro e wq ⟨rfl, hwq⟩; have hwr := hwq.symm; subst hwr; clear hwq) | (go_at_call 268; refine (shortNumber_any _ _ (by omega)).mono ?_; rintro e w1 ⟨rfl, hOs⟩; have H := hide ((unhide H).keep hOs (fun f => f) (fun _ _ f => f)); have HS := hide ((unhide HS).keep hOs (fun _ _ f => f)); have c1 := (unhide H).c1; have f1 := (unhide H).f1) | (go_at_call 102; refine (take_no b L (n) len dp _ _ (by first | exact unhide H | exact (unhide H).drewN _) hL (by omega) (by decide) (by assumption)).mono ?_; rintro e wq ⟨rfl, qq, rfl⟩) | (go_at_call 102; refine (take_yes b L (n) len dp _ _ (by exact (unhide H).drewN _) hL (by omega) (by decide) (by assumption)).mono ?_; rintro e w3 ⟨rfl, hR3, hO3⟩; have hR3 : RdAt w3 b L ((n) + 1) len dp := hR3; have H3 := hide hR3); (have HS := hide ((unhide HS).mine (by first | exact hO3 | exact ((Only.refl _ _).drewN _).trans hO3) hb)) | (go_at_call 270; refine (pcontrol_any b L (n + 1) len dp a _ (by exact unhide H3) (by exact unhide HS) hb hL (by omega) hF).mono ?_; rintro e w4 ⟨hO4, hR4, hT4⟩; obtain rfl := told_yes hT4 hk; have H4 := hide hR4; have c14 := hR4.c1; have f14 := hR4.f1))
         go_ret2
         rw [unhide HO]
         exact Tells.yes hk (by first | exact (hOs.none.trans hO3).trans hO4 | exact ((hOs.none.drewN _).trans hO3).trans hO4) hR4
       · go_enter Tryz.func245, Tryz.ntmps245
         go_wp2_with (first | (go_at_call 147; refine (peek_any b L (n) len dp _ (by exact unhide H) hL (by omega)).mono ?_; rintro e wq ⟨rfl, hwq⟩; have hwr := hwq.symm; subst hwr; clear hwq) | (go_at_call 268; refine (shortNumber_any _ _ (by omega)).mono ?_; rintro e w1 ⟨rfl, hOs⟩; have H := hide ((unhide H).keep hOs (fun f => f) (fun _ _ f => f)); have HS := hide ((unhide HS).keep hOs (fun _ _ f => f)); have c1 := (unhide H).c1; have f1 := (unhide H).f1) | (go_at_call 102; refine (take_no b L (n) len dp _ _ (by first | exact unhide H | exact (unhide H).drewN _) hL (by omega) (by decide) (by assumption)).mono ?_; rintro e wq ⟨rfl, qq, rfl⟩) | (go_at_call 102; refine (take_yes b L (n) len dp _ _ (by exact (unhide H).drewN _) hL (by omega) (by decide) (by assumption)).mono ?_; rintro e w3 ⟨rfl, hR3, hO3⟩; have hR3 : RdAt w3 b L ((n) + 1) len dp := hR3; have H3 := hide hR3); (have HS := hide ((unhide HS).mine (by first | exact hO3 | exact ((Only.refl _ _).drewN _).trans hO3) hb)) | (go_at_call 270; refine (pcontrol_any b L (n + 1) len dp a _ (by exact unhide H3) (by exact unhide HS) hb hL (by omega) hF).mono ?_; rintro e w4 ⟨hO4, hR4, hT4⟩; obtain ⟨v4, rfl, hv4⟩ := told_no hT4 hk; obtain ⟨g4, hg4⟩ := hv4.form; subst hg4; have H4 := hide hR4; have c14 := hR4.c1; have f14 := hR4.f1))
         go_ret2
         rw [unhide HO]
         exact Tells.no hk (by first | exact (hOs.none.trans hO3).trans hO4 | exact ((hOs.none.drewN _).trans hO3).trans hO4) hR4 (hv4.base (by first | exact (hOs.none.trans hO3).size | exact ((hOs.none.drewN _).trans hO3).size))
     · by_cases q2 : Pro.letAt L n = 120
       · have HO : Hid (Pro.numO L len n = Pro.hexO L len 2 0 (n + 1)) := by unfold Pro.numO; rw [hsh]; simp only [Bool.false_eq_true, if_false]; rw [if_neg q0]; rw [if_neg q1]; rw [if_pos q2]; rfl
         have hlt : n < L.length := Pro.letAt_in' (by omega)
         have m0 : Pro.matchB L n { data := #[48] } = false := by rw [Pro.matchB_one L n 48 48 rfl]; simp; omega
         have m1 : Pro.matchB L n { data := #[99] } = false := by rw [Pro.matchB_one L n 99 99 rfl]; simp; omega
         have m2 : Pro.matchB L n { data := #[120] } = true := by rw [Pro.matchB_one L n 120 120 rfl]; simp; omega
         clear q0 q1 q2
         by_cases hk : (Pro.hexO L len 2 0 (n + 1)).k = 0
         · go_enter Tryz.func245, Tryz.ntmps245
           go_wp2_with (first | (go_at_call 147; refine (peek_any b L (n) len dp _ (by exact unhide H) hL (by omega)).mono ?_; rintro e wq ⟨rfl, hwq⟩; have hwr := hwq.symm; subst hwr; clear hwq) | (go_at_call 268; refine (shortNumber_any _ _ (by omega)).mono ?_; rintro e w1 ⟨rfl, hOs⟩; have H := hide ((unhide H).keep hOs (fun f => f) (fun _ _ f => f)); have HS := hide ((unhide HS).keep hOs (fun _ _ f => f)); have c1 := (unhide H).c1; have f1 := (unhide H).f1) | (go_at_call 102; refine (take_no b L (n) len dp _ _ (by first | exact unhide H | exact (unhide H).drewN _) hL (by omega) (by decide) (by assumption)).mono ?_; rintro e wq ⟨rfl, qq, rfl⟩) | (go_at_call 102; refine (take_yes b L (n) len dp _ _ (by exact (unhide H).drewN _) hL (by omega) (by decide) (by assumption)).mono ?_; rintro e w3 ⟨rfl, hR3, hO3⟩; have hR3 : RdAt w3 b L ((n) + 1) len dp := hR3; have H3 := hide hR3); (have HS := hide ((unhide HS).mine (by first | exact hO3 | exact ((Only.refl _ _).drewN _).trans hO3) hb)) | (go_at_call 271; refine (hexNumber_any b L (n + 1) len dp a 2 _ (by exact unhide H3) (by exact unhide HS) hb hL (by omega) hF (by omega)).mono ?_; rintro e w4 ⟨hO4, hR4, hT4⟩; obtain rfl := told_yes hT4 hk; have H4 := hide hR4; have c14 := hR4.c1; have f14 := hR4.f1))
           go_ret2
           rw [unhide HO]
           exact Tells.yes hk (by first | exact (hOs.none.trans hO3).trans hO4 | exact ((hOs.none.drewN _).trans hO3).trans hO4) hR4
         · go_enter Tryz.func245, Tryz.ntmps245
           go_wp2_with (first | (go_at_call 147; refine (peek_any b L (n) len dp _ (by exact unhide H) hL (by omega)).mono ?_; rintro e wq ⟨rfl, hwq⟩; have hwr := hwq.symm; subst hwr; clear hwq) | (go_at_call 268; refine (shortNumber_any _ _ (by omega)).mono ?_; rintro e w1 ⟨rfl, hOs⟩; have H := hide ((unhide H).keep hOs (fun f => f) (fun _ _ f => f)); have HS := hide ((unhide HS).keep hOs (fun _ _ f => f)); have c1 := (unhide H).c1; have f1 := (unhide H).f1) | (go_at_call 102; refine (take_no b L (n) len dp _ _ (by first | exact unhide H | exact (unhide H).drewN _) hL (by omega) (by decide) (by assumption)).mono ?_; rintro e wq ⟨rfl, qq, rfl⟩) | (go_at_call 102; refine (take_yes b L (n) len dp _ _ (by exact (unhide H).drewN _) hL (by omega) (by decide) (by assumption)).mono ?_; rintro e w3 ⟨rfl, hR3, hO3⟩; have hR3 : RdAt w3 b L ((n) + 1) len dp := hR3; have H3 := hide hR3); (have HS := hide ((unhide HS).mine (by first | exact hO3 | exact ((Only.refl _ _).drewN _).trans hO3) hb)) | (go_at_call 271; refine (hexNumber_any b L (n + 1) len dp a 2 _ (by exact unhide H3) (by exact unhide HS) hb hL (by omega) hF (by omega)).mono ?_; rintro e w4 ⟨hO4, hR4, hT4⟩; obtain ⟨v4, rfl, hv4⟩ := told_no hT4 hk; obtain ⟨g4, hg4⟩ := hv4.form; subst hg4; have H4 := hide hR4; have c14 := hR4.c1; have f14 := hR4.f1))
           go_ret2
           rw [unhide HO]
           exact Tells.no hk (by first | exact (hOs.none.trans hO3).trans hO4 | exact ((hOs.none.drewN _).trans hO3).trans hO4) hR4 (hv4.base (by first | exact (hOs.none.trans hO3).size | exact ((hOs.none.drewN _).trans hO3).size))
       · by_cases q3 : Pro.letAt L n = 117 ∧ Pro.letAt L (n + 1) = 123
         · have HO : Hid (Pro.numO L len n = Pro.bracedP L len (n + 2)) := by unfold Pro.numO; rw [hsh]; simp only [Bool.false_eq_true, if_false]; rw [if_neg q0]; rw [if_neg q1]; rw [if_neg q2]; rw [if_pos q3]; rfl
           have hlt : n < L.length := Pro.letAt_in' (by omega)
           have hlt2 : n + 1 < L.length := Pro.letAt_in' (by omega)
           have m0 : Pro.matchB L n { data := #[48] } = false := by rw [Pro.matchB_one L n 48 48 rfl]; simp; omega
           have m1 : Pro.matchB L n { data := #[99] } = false := by rw [Pro.matchB_one L n 99 99 rfl]; simp; omega
           have m2 : Pro.matchB L n { data := #[120] } = false := by rw [Pro.matchB_one L n 120 120 rfl]; simp; omega
           have m3 : Pro.matchB L n { data := #[117, 123] } = true := by rw [Pro.matchB_two L n 117 123 117 123 rfl rfl]; simp; omega
           clear q0 q1 q2 q3
           by_cases hk : (Pro.bracedP L len (n + 2)).k = 0
           · go_enter Tryz.func245, Tryz.ntmps245
             go_wp2_with (first | (go_at_call 147; refine (peek_any b L (n) len dp _ (by exact unhide H) hL (by omega)).mono ?_; rintro e wq ⟨rfl, hwq⟩; have hwr := hwq.symm; subst hwr; clear hwq) | (go_at_call 268; refine (shortNumber_any _ _ (by omega)).mono ?_; rintro e w1 ⟨rfl, hOs⟩; have H := hide ((unhide H).keep hOs (fun f => f) (fun _ _ f => f)); have HS := hide ((unhide HS).keep hOs (fun _ _ f => f)); have c1 := (unhide H).c1; have f1 := (unhide H).f1) | (go_at_call 102; refine (take_no b L (n) len dp _ _ (by first | exact unhide H | exact (unhide H).drewN _) hL (by omega) (by decide) (by assumption)).mono ?_; rintro e wq ⟨rfl, qq, rfl⟩) | (go_at_call 102; refine (take_yes b L (n) len dp _ _ (by exact (unhide H).drewN _) hL (by omega) (by decide) (by assumption)).mono ?_; rintro e w3 ⟨rfl, hR3, hO3⟩; have hR3 : RdAt w3 b L ((n) + 2) len dp := hR3; have H3 := hide hR3); (have HS := hide ((unhide HS).mine (by first | exact hO3 | exact ((Only.refl _ _).drewN _).trans hO3) hb)) | (go_at_call 272; refine (bracedNumber_any b L (n + 2) len dp a _ (by exact unhide H3) (by exact unhide HS) hb hL (by omega) hF).mono ?_; rintro e w4 ⟨hO4, hR4, hT4⟩; obtain rfl := told_yes hT4 hk; have H4 := hide hR4; have c14 := hR4.c1; have f14 := hR4.f1))
             go_ret2
             rw [unhide HO]
             exact Tells.yes hk (by first | exact (hOs.none.trans hO3).trans hO4 | exact ((hOs.none.drewN _).trans hO3).trans hO4) hR4
           · go_enter Tryz.func245, Tryz.ntmps245
             go_wp2_with (first | (go_at_call 147; refine (peek_any b L (n) len dp _ (by exact unhide H) hL (by omega)).mono ?_; rintro e wq ⟨rfl, hwq⟩; have hwr := hwq.symm; subst hwr; clear hwq) | (go_at_call 268; refine (shortNumber_any _ _ (by omega)).mono ?_; rintro e w1 ⟨rfl, hOs⟩; have H := hide ((unhide H).keep hOs (fun f => f) (fun _ _ f => f)); have HS := hide ((unhide HS).keep hOs (fun _ _ f => f)); have c1 := (unhide H).c1; have f1 := (unhide H).f1) | (go_at_call 102; refine (take_no b L (n) len dp _ _ (by first | exact unhide H | exact (unhide H).drewN _) hL (by omega) (by decide) (by assumption)).mono ?_; rintro e wq ⟨rfl, qq, rfl⟩) | (go_at_call 102; refine (take_yes b L (n) len dp _ _ (by exact (unhide H).drewN _) hL (by omega) (by decide) (by assumption)).mono ?_; rintro e w3 ⟨rfl, hR3, hO3⟩; have hR3 : RdAt w3 b L ((n) + 2) len dp := hR3; have H3 := hide hR3); (have HS := hide ((unhide HS).mine (by first | exact hO3 | exact ((Only.refl _ _).drewN _).trans hO3) hb)) | (go_at_call 272; refine (bracedNumber_any b L (n + 2) len dp a _ (by exact unhide H3) (by exact unhide HS) hb hL (by omega) hF).mono ?_; rintro e w4 ⟨hO4, hR4, hT4⟩; obtain ⟨v4, rfl, hv4⟩ := told_no hT4 hk; obtain ⟨g4, hg4⟩ := hv4.form; subst hg4; have H4 := hide hR4; have c14 := hR4.c1; have f14 := hR4.f1))
             go_ret2
             rw [unhide HO]
             exact Tells.no hk (by first | exact (hOs.none.trans hO3).trans hO4 | exact ((hOs.none.drewN _).trans hO3).trans hO4) hR4 (hv4.base (by first | exact (hOs.none.trans hO3).size | exact ((hOs.none.drewN _).trans hO3).size))
         · by_cases q4 : Pro.letAt L n = 117
           · have HO : Hid (Pro.numO L len n = Pro.unicodeO L len (n + 1)) := by unfold Pro.numO; rw [hsh]; simp only [Bool.false_eq_true, if_false]; rw [if_neg q0]; rw [if_neg q1]; rw [if_neg q2]; rw [if_neg q3]; rw [if_pos q4]; rfl
             have hlt : n < L.length := Pro.letAt_in' (by omega)
             have m0 : Pro.matchB L n { data := #[48] } = false := by rw [Pro.matchB_one L n 48 48 rfl]; simp; omega
             have m1 : Pro.matchB L n { data := #[99] } = false := by rw [Pro.matchB_one L n 99 99 rfl]; simp; omega
             have m2 : Pro.matchB L n { data := #[120] } = false := by rw [Pro.matchB_one L n 120 120 rfl]; simp; omega
             have m3 : Pro.matchB L n { data := #[117, 123] } = false := by rw [Pro.matchB_two L n 117 123 117 123 rfl rfl]; simp; omega
             have m4 : Pro.matchB L n { data := #[117] } = true := by rw [Pro.matchB_one L n 117 117 rfl]; simp; omega
             clear q0 q1 q2 q3 q4
             by_cases hk : (Pro.unicodeO L len (n + 1)).k = 0
             · go_enter Tryz.func245, Tryz.ntmps245
               go_wp2_with (first | (go_at_call 147; refine (peek_any b L (n) len dp _ (by exact unhide H) hL (by omega)).mono ?_; rintro e wq ⟨rfl, hwq⟩; have hwr := hwq.symm; subst hwr; clear hwq) | (go_at_call 268; refine (shortNumber_any _ _ (by omega)).mono ?_; rintro e w1 ⟨rfl, hOs⟩; have H := hide ((unhide H).keep hOs (fun f => f) (fun _ _ f => f)); have HS := hide ((unhide HS).keep hOs (fun _ _ f => f)); have c1 := (unhide H).c1; have f1 := (unhide H).f1) | (go_at_call 102; refine (take_no b L (n) len dp _ _ (by first | exact unhide H | exact (unhide H).drewN _) hL (by omega) (by decide) (by assumption)).mono ?_; rintro e wq ⟨rfl, qq, rfl⟩) | (go_at_call 102; refine (take_yes b L (n) len dp _ _ (by exact (unhide H).drewN _) hL (by omega) (by decide) (by assumption)).mono ?_; rintro e w3 ⟨rfl, hR3, hO3⟩; have hR3 : RdAt w3 b L ((n) + 1) len dp := hR3; have H3 := hide hR3); (have HS := hide ((unhide HS).mine (by first | exact hO3 | exact ((Only.refl _ _).drewN _).trans hO3) hb)) | (go_at_call 273; refine (unicodeNumber_any b L (n + 1) len dp a _ (by exact unhide H3) (by exact unhide HS) hb hL (by omega) hF).mono ?_; rintro e w4 ⟨hO4, hR4, hT4⟩; obtain rfl := told_yes hT4 hk; have H4 := hide hR4; have c14 := hR4.c1; have f14 := hR4.f1))
               go_ret2
               rw [unhide HO]
               exact Tells.yes hk (by first | exact (hOs.none.trans hO3).trans hO4 | exact ((hOs.none.drewN _).trans hO3).trans hO4) hR4
             · go_enter Tryz.func245, Tryz.ntmps245
               go_wp2_with (first | (go_at_call 147; refine (peek_any b L (n) len dp _ (by exact unhide H) hL (by omega)).mono ?_; rintro e wq ⟨rfl, hwq⟩; have hwr := hwq.symm; subst hwr; clear hwq) | (go_at_call 268; refine (shortNumber_any _ _ (by omega)).mono ?_; rintro e w1 ⟨rfl, hOs⟩; have H := hide ((unhide H).keep hOs (fun f => f) (fun _ _ f => f)); have HS := hide ((unhide HS).keep hOs (fun _ _ f => f)); have c1 := (unhide H).c1; have f1 := (unhide H).f1) | (go_at_call 102; refine (take_no b L (n) len dp _ _ (by first | exact unhide H | exact (unhide H).drewN _) hL (by omega) (by decide) (by assumption)).mono ?_; rintro e wq ⟨rfl, qq, rfl⟩) | (go_at_call 102; refine (take_yes b L (n) len dp _ _ (by exact (unhide H).drewN _) hL (by omega) (by decide) (by assumption)).mono ?_; rintro e w3 ⟨rfl, hR3, hO3⟩; have hR3 : RdAt w3 b L ((n) + 1) len dp := hR3; have H3 := hide hR3); (have HS := hide ((unhide HS).mine (by first | exact hO3 | exact ((Only.refl _ _).drewN _).trans hO3) hb)) | (go_at_call 273; refine (unicodeNumber_any b L (n + 1) len dp a _ (by exact unhide H3) (by exact unhide HS) hb hL (by omega) hF).mono ?_; rintro e w4 ⟨hO4, hR4, hT4⟩; obtain ⟨v4, rfl, hv4⟩ := told_no hT4 hk; obtain ⟨g4, hg4⟩ := hv4.form; subst hg4; have H4 := hide hR4; have c14 := hR4.c1; have f14 := hR4.f1))
               go_ret2
               rw [unhide HO]
               exact Tells.no hk (by first | exact (hOs.none.trans hO3).trans hO4 | exact ((hOs.none.drewN _).trans hO3).trans hO4) hR4 (hv4.base (by first | exact (hOs.none.trans hO3).size | exact ((hOs.none.drewN _).trans hO3).size))
           · have HO : Hid (Pro.numO L len n = Pro.bad 3 (Pro.placeAt L len n) n) := by unfold Pro.numO; rw [hsh]; simp only [Bool.false_eq_true, if_false]; rw [if_neg q0]; rw [if_neg q1]; rw [if_neg q2]; rw [if_neg q3]; rw [if_neg q4]; rfl
             have m0 : Pro.matchB L n { data := #[48] } = false := by rw [Pro.matchB_one L n 48 48 rfl]; simp; omega
             have m1 : Pro.matchB L n { data := #[99] } = false := by rw [Pro.matchB_one L n 99 99 rfl]; simp; omega
             have m2 : Pro.matchB L n { data := #[120] } = false := by rw [Pro.matchB_one L n 120 120 rfl]; simp; omega
             have m3 : Pro.matchB L n { data := #[117, 123] } = false := by rw [Pro.matchB_two L n 117 123 117 123 rfl rfl]; simp; omega
             have m4 : Pro.matchB L n { data := #[117] } = false := by rw [Pro.matchB_one L n 117 117 rfl]; simp; omega
             clear q0 q1 q2 q3 q4
             go_enter Tryz.func245, Tryz.ntmps245
             go_wp2_with (first | (go_at_call 147; refine (peek_any b L (n) len dp _ (by exact unhide H) hL (by omega)).mono ?_; rintro e wq ⟨rfl, hwq⟩; have hwr := hwq.symm; subst hwr; clear hwq) | (go_at_call 268; refine (shortNumber_any _ _ (by omega)).mono ?_; rintro e w1 ⟨rfl, hOs⟩; have H := hide ((unhide H).keep hOs (fun f => f) (fun _ _ f => f)); have HS := hide ((unhide HS).keep hOs (fun _ _ f => f)); have c1 := (unhide H).c1; have f1 := (unhide H).f1) | (go_at_call 102; refine (take_no b L (n) len dp _ _ (by first | exact unhide H | exact (unhide H).drewN _) hL (by omega) (by decide) (by assumption)).mono ?_; rintro e wq ⟨rfl, qq, rfl⟩) | (go_at_call 55; refine (wrong_at b L (n) len dp a _ (by exact (unhide H).drewN _) (by exact (unhide HS).drewN _) hL (by omega)).mono ?_; rintro e wq ⟨v, rfl, hv, hO1⟩))
             go_ret2
             exact told_bad (unhide HO) (by decide) ((hOs.none.drewN _).trans hO1.none) (((unhide H).drewN _).keep hO1 (fun f => f) (fun _ _ f => f)) (hv.base hOs.size)
 · have HO : Hid (Pro.numO L len n = Pro.good (Pro.shortV (Pro.letAt L n)) (n + 1)) := by unfold Pro.numO; rw [if_pos hsh]; rfl
   have hlt : n < L.length := by
     by_cases hlt : n < L.length
     · exact hlt
     · rw [Pro.letAt_out (by omega)] at hsh; exact absurd hsh (by decide)
   go_enter Tryz.func245, Tryz.ntmps245
   go_wp2_with (first | (go_at_call 147; refine (peek_any b L (n) len dp _ (by exact unhide H) hL (by omega)).mono ?_; rintro e wq ⟨rfl, hwq⟩; have hwr := hwq.symm; subst hwr; clear hwq) | (go_at_call 268; refine (shortNumber_any _ _ (by omega)).mono ?_; rintro e w1 ⟨rfl, hOs⟩; have H := hide ((unhide H).keep hOs (fun f => f) (fun _ _ f => f)); have HS := hide ((unhide HS).keep hOs (fun _ _ f => f)); have c1 := (unhide H).c1; have f1 := (unhide H).f1))
   go_ret2
   exact told_good (unhide HO) (by rw [unhide HO]; rfl) (hOs.none.mine _ _) ((unhide H).setN _ _ (by omega))
end Go.Proofs.YtnagphodmfejiaaGreatDoor
