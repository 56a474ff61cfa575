/- The program's numbers behind a backslash, whichever comes. A reader that is followed from the world where a method began. The program's escapes: a character, or many. The program's classes: a member, and whether a range follows. The program's classes in memory; a range read into one. -/
import Derived.Test.YtfnkbmglodopkaaGreatDoorZProAProJ
import Derived.Test.YtfnkbmglodopkaaGreatDoorZRefARefV
namespace Go.Proofs.YtfnkbmglodopkaaGreatDoor
section
open Go.RowKit
set_option maxHeartbeats 2000000
theorem Tells.yes {b : Nat} {L : List (Int × Int)} {len dp : Int} {a : Nat → Addr} {w w' : World} {o : Pro.Out} {yes no : Value} (hk : o.k = 0) (hO : Only (Mine b) w w') (hR : RdAt w' b L o.n len dp) : Tells b L len dp a w o yes no (.returned (.tuple #[yes, .nilIface])) w' := ⟨hO, hR, .inl ⟨hk, rfl⟩⟩
theorem Tells.no {b : Nat} {L : List (Int × Int)} {len dp : Int} {a : Nat → Addr} {w w' : World} {o : Pro.Out} {yes no v : Value} (hk : o.k ≠ 0) (hO : Only (Mine b) w w') (hR : RdAt w' b L o.n len dp) (hv : FaultAt w' w.heap.size v (sentV a o.k) o.p) : Tells b L len dp a w o yes no (.returned (.tuple #[no, v])) w' := ⟨hO, hR, .inr ⟨hk, v, rfl, hv⟩⟩
theorem zero_tells (b : Nat) (L : List (Int × Int)) (n : Nat) (len dp : Int) (a : Nat → Addr) (w : World) (h : RdAt w b L n len dp) (hS : Sents w a) (_hb : 10 ≤ b) (hL : L.length ≤ 400) (hn : n ≤ L.length) (_hF : Pro.Fit L) :
   Calls Tryz.prog 293 #[.pointer (some ⟨b, 0, none⟩)] w (Tells b L len dp a w (Pro.zeroO L len n) (.int .i32 (Pro.zeroO L len n).v) (.int .i32 0)) := by
 refine (zero_any b L n len dp a w h hS hL hn).mono ?_
 rintro e w1 ⟨hO, ⟨hd, rfl⟩ | ⟨hd, v, rfl, hv⟩⟩
 · have e1 : Pro.zeroO L len n = Pro.good 0 n := by unfold Pro.zeroO Pro.dig; rw [hd]; rfl
   exact told_good e1 (by rw [e1]; rfl) hO.none (h.keep hO (fun f => f) (fun _ _ f => f))
 · have e1 : Pro.zeroO L len n = Pro.bad 3 (Pro.placeAt L len n) n := by unfold Pro.zeroO Pro.dig; rw [hd]; rfl
   exact told_bad e1 (by decide) hO.none (h.keep hO (fun f => f) (fun _ _ f => f)) hv
namespace Pro
theorem zeroO_n (L : List (Int × Int)) (len : Int) (n : Nat) : (zeroO L len n).n = n := by unfold zeroO; split <;> rfl
end Pro
theorem escapedNumber_any (b : Nat) (L : List (Int × Int)) (n : Nat) (len dp : Int) (a : Nat → Addr) (w : World) (h : RdAt w b L n len dp) (hS : Sents w a) (hb : 10 ≤ b) (hL : L.length ≤ 400) (hn : n ≤ L.length) (hF : Pro.Fit L) :
   Calls Tryz.prog 257 #[.pointer (some ⟨b, 0, none⟩)] w (Tells b L len dp a w (Pro.numO L len n) (.int .i32 (Pro.numO L len n).v) (.int .i32 0)) := by
 have H := hide h
 have HS := hide hS
 clear h hS
 have hfit := hF n
 cases hsh : Pro.shortB (Pro.letAt L n)
 · by_cases q0 : Pro.letAt L n = 48
   · have HO : Hid (Pro.numO L len n = Pro.zeroO L len (n + 1)) := by unfold Pro.numO; rw [hsh]; simp only [Bool.false_eq_true, if_false]; rw [if_pos q0]; rfl
     have hlt : n < L.length := Pro.letAt_in' (by omega)
     have m0 : Pro.matchB L n { data := #[48] } = true := by rw [Pro.matchB_one L n 48 48 rfl]; simp; omega
     clear q0
     by_cases hk : (Pro.zeroO L len (n + 1)).k = 0
     · go_enter Tryz.func257, Tryz.ntmps257
       go_wp2_with (first | (go_at_call 131; refine (peek_any b L (n) len dp _ (by exact unhide H) hL (by omega)).mono ?_; rintro e wq ⟨rfl, hwq⟩; have hwr := hwq.symm; subst hwr; clear hwq) | (go_at_call 292; refine (shortNumber_any _ _ (by omega)).mono ?_; rintro e w1 ⟨rfl, hOs⟩; have H := hide ((unhide H).keep hOs (fun f => f) (fun _ _ f => f)); have HS := hide ((unhide HS).keep hOs (fun _ _ f => f)); have c1 := (unhide H).c1; have f1 := (unhide H).f1) | (go_at_call 93; refine (take_no b L (n) len dp _ _ (by exact unhide H) hL (by omega) (by decide) (by assumption)).mono ?_; rintro e wq ⟨rfl, qq, rfl⟩) | (go_at_call 93; refine (take_yes b L (n) len dp _ _ (by exact unhide H) hL (by omega) (by decide) (by assumption)).mono ?_; rintro e w3 ⟨rfl, hR3, hO3⟩; have hR3 : RdAt w3 b L ((n) + 1) len dp := hR3; have H3 := hide hR3); (have HS := hide ((unhide HS).mine (by first | exact hO3 | exact ((Only.refl _ _).drewN _).trans hO3) hb)) | (go_at_call 293; refine (zero_tells b L (n + 1) len dp a _ (by exact unhide H3) (by exact unhide HS) hb hL (by omega) hF).mono ?_; rintro e w4 ⟨hO4, hR4, hT4⟩; obtain rfl := told_yes hT4 hk; have H4 := hide hR4; have c14 := hR4.c1; have f14 := hR4.f1))
       go_ret2
       rw [unhide HO]
       exact Tells.yes hk (by first | exact (hOs.none.trans hO3).trans hO4 | exact ((hOs.none.drewN _).trans hO3).trans hO4) hR4
     · go_enter Tryz.func257, Tryz.ntmps257
       go_wp2_with (first | (go_at_call 131; refine (peek_any b L (n) len dp _ (by exact unhide H) hL (by omega)).mono ?_; rintro e wq ⟨rfl, hwq⟩; have hwr := hwq.symm; subst hwr; clear hwq) | (go_at_call 292; refine (shortNumber_any _ _ (by omega)).mono ?_; rintro e w1 ⟨rfl, hOs⟩; have H := hide ((unhide H).keep hOs (fun f => f) (fun _ _ f => f)); have HS := hide ((unhide HS).keep hOs (fun _ _ f => f)); have c1 := (unhide H).c1; have f1 := (unhide H).f1) | (go_at_call 93; refine (take_no b L (n) len dp _ _ (by exact unhide H) hL (by omega) (by decide) (by assumption)).mono ?_; rintro e wq ⟨rfl, qq, rfl⟩) | (go_at_call 93; refine (take_yes b L (n) len dp _ _ (by exact unhide H) hL (by omega) (by decide) (by assumption)).mono ?_; rintro e w3 ⟨rfl, hR3, hO3⟩; have hR3 : RdAt w3 b L ((n) + 1) len dp := hR3; have H3 := hide hR3); (have HS := hide ((unhide HS).mine (by first | exact hO3 | exact ((Only.refl _ _).drewN _).trans hO3) hb)) | (go_at_call 293; refine (zero_tells b L (n + 1) len dp a _ (by exact unhide H3) (by exact unhide HS) hb hL (by omega) hF).mono ?_; rintro e w4 ⟨hO4, hR4, hT4⟩; obtain ⟨v4, rfl, hv4⟩ := told_no hT4 hk; obtain ⟨g4, hg4⟩ := hv4.form; subst hg4; have H4 := hide hR4; have c14 := hR4.c1; have f14 := hR4.f1))
       go_ret2
       rw [unhide HO]
       exact Tells.no hk (by first | exact (hOs.none.trans hO3).trans hO4 | exact ((hOs.none.drewN _).trans hO3).trans hO4) hR4 (hv4.base (by first | exact (hOs.none.trans hO3).size | exact ((hOs.none.drewN _).trans hO3).size))
   · by_cases q1 : Pro.letAt L n = 99
     · have HO : Hid (Pro.numO L len n = Pro.controlO L len (n + 1)) := by unfold Pro.numO; rw [hsh]; simp only [Bool.false_eq_true, if_false]; rw [if_neg q0]; rw [if_pos q1]; rfl
       have hlt : n < L.length := Pro.letAt_in' (by omega)
       have m0 : Pro.matchB L n { data := #[48] } = false := by rw [Pro.matchB_one L n 48 48 rfl]; simp; omega
       have m1 : Pro.matchB L n { data := #[99] } = true := by rw [Pro.matchB_one L n 99 99 rfl]; simp; omega
       clear q0 q1
       by_cases hk : (Pro.controlO L len (n + 1)).k = 0
       · go_enter Tryz.func257, Tryz.ntmps257
         go_wp2_with (first | (go_at_call 131; refine (peek_any b L (n) len dp _ (by exact unhide H) hL (by omega)).mono ?_; rintro e wq ⟨rfl, hwq⟩; have hwr := hwq.symm; subst hwr; clear hwq) | (go_at_call 292; refine (shortNumber_any _ _ (by omega)).mono ?_; rintro e w1 ⟨rfl, hOs⟩; have H := hide ((unhide H).keep hOs (fun f => f) (fun _ _ f => f)); have HS := hide ((unhide HS).keep hOs (fun _ _ f => f)); have c1 := (unhide H).c1; have f1 := (unhide H).f1) | (go_at_call 93; refine (take_no b L (n) len dp _ _ (by first | exact unhide H | exact (unhide H).drewN _) hL (by omega) (by decide) (by assumption)).mono ?_; rintro e wq ⟨rfl, qq, rfl⟩) | (go_at_call 93; refine (take_yes b L (n) len dp _ _ (by exact (unhide H).drewN _) hL (by omega) (by decide) (by assumption)).mono ?_; rintro e w3 ⟨rfl, hR3, hO3⟩; have hR3 : RdAt w3 b L ((n) + 1) len dp := hR3; have H3 := hide hR3); (have HS := hide ((unhide HS).mine (by first | exact hO3 | exact ((Only.refl _ _).drewN _).trans hO3) hb)) | (go_at_call 294; refine (pcontrol_any b L (n + 1) len dp a _ (by exact unhide H3) (by exact unhide HS) hb hL (by omega) hF).mono ?_; rintro e w4 ⟨hO4, hR4, hT4⟩; obtain rfl := told_yes hT4 hk; have H4 := hide hR4; have c14 := hR4.c1; have f14 := hR4.f1))
         go_ret2
         rw [unhide HO]
         exact Tells.yes hk (by first | exact (hOs.none.trans hO3).trans hO4 | exact ((hOs.none.drewN _).trans hO3).trans hO4) hR4
       · go_enter Tryz.func257, Tryz.ntmps257
         go_wp2_with (first | (go_at_call 131; refine (peek_any b L (n) len dp _ (by exact unhide H) hL (by omega)).mono ?_; rintro e wq ⟨rfl, hwq⟩; have hwr := hwq.symm; subst hwr; clear hwq) | (go_at_call 292; refine (shortNumber_any _ _ (by omega)).mono ?_; rintro e w1 ⟨rfl, hOs⟩; have H := hide ((unhide H).keep hOs (fun f => f) (fun _ _ f => f)); have HS := hide ((unhide HS).keep hOs (fun _ _ f => f)); have c1 := (unhide H).c1; have f1 := (unhide H).f1) | (go_at_call 93; refine (take_no b L (n) len dp _ _ (by first | exact unhide H | exact (unhide H).drewN _) hL (by omega) (by decide) (by assumption)).mono ?_; rintro e wq ⟨rfl, qq, rfl⟩) | (go_at_call 93; refine (take_yes b L (n) len dp _ _ (by exact (unhide H).drewN _) hL (by omega) (by decide) (by assumption)).mono ?_; rintro e w3 ⟨rfl, hR3, hO3⟩; have hR3 : RdAt w3 b L ((n) + 1) len dp := hR3; have H3 := hide hR3); (have HS := hide ((unhide HS).mine (by first | exact hO3 | exact ((Only.refl _ _).drewN _).trans hO3) hb)) | (go_at_call 294; refine (pcontrol_any b L (n + 1) len dp a _ (by exact unhide H3) (by exact unhide HS) hb hL (by omega) hF).mono ?_; rintro e w4 ⟨hO4, hR4, hT4⟩; obtain ⟨v4, rfl, hv4⟩ := told_no hT4 hk; obtain ⟨g4, hg4⟩ := hv4.form; subst hg4; have H4 := hide hR4; have c14 := hR4.c1; have f14 := hR4.f1))
         go_ret2
         rw [unhide HO]
         exact Tells.no hk (by first | exact (hOs.none.trans hO3).trans hO4 | exact ((hOs.none.drewN _).trans hO3).trans hO4) hR4 (hv4.base (by first | exact (hOs.none.trans hO3).size | exact ((hOs.none.drewN _).trans hO3).size))
     · by_cases q2 : Pro.letAt L n = 120
       · have HO : Hid (Pro.numO L len n = Pro.hexO L len 2 0 (n + 1)) := by unfold Pro.numO; rw [hsh]; simp only [Bool.false_eq_true, if_false]; rw [if_neg q0]; rw [if_neg q1]; rw [if_pos q2]; rfl
         have hlt : n < L.length := Pro.letAt_in' (by omega)
         have m0 : Pro.matchB L n { data := #[48] } = false := by rw [Pro.matchB_one L n 48 48 rfl]; simp; omega
         have m1 : Pro.matchB L n { data := #[99] } = false := by rw [Pro.matchB_one L n 99 99 rfl]; simp; omega
         have m2 : Pro.matchB L n { data := #[120] } = true := by rw [Pro.matchB_one L n 120 120 rfl]; simp; omega
         clear q0 q1 q2
         by_cases hk : (Pro.hexO L len 2 0 (n + 1)).k = 0
         · go_enter Tryz.func257, Tryz.ntmps257
           go_wp2_with (first | (go_at_call 131; refine (peek_any b L (n) len dp _ (by exact unhide H) hL (by omega)).mono ?_; rintro e wq ⟨rfl, hwq⟩; have hwr := hwq.symm; subst hwr; clear hwq) | (go_at_call 292; refine (shortNumber_any _ _ (by omega)).mono ?_; rintro e w1 ⟨rfl, hOs⟩; have H := hide ((unhide H).keep hOs (fun f => f) (fun _ _ f => f)); have HS := hide ((unhide HS).keep hOs (fun _ _ f => f)); have c1 := (unhide H).c1; have f1 := (unhide H).f1) | (go_at_call 93; refine (take_no b L (n) len dp _ _ (by first | exact unhide H | exact (unhide H).drewN _) hL (by omega) (by decide) (by assumption)).mono ?_; rintro e wq ⟨rfl, qq, rfl⟩) | (go_at_call 93; refine (take_yes b L (n) len dp _ _ (by exact (unhide H).drewN _) hL (by omega) (by decide) (by assumption)).mono ?_; rintro e w3 ⟨rfl, hR3, hO3⟩; have hR3 : RdAt w3 b L ((n) + 1) len dp := hR3; have H3 := hide hR3); (have HS := hide ((unhide HS).mine (by first | exact hO3 | exact ((Only.refl _ _).drewN _).trans hO3) hb)) | (go_at_call 295; refine (hexNumber_any b L (n + 1) len dp a 2 _ (by exact unhide H3) (by exact unhide HS) hb hL (by omega) hF (by omega)).mono ?_; rintro e w4 ⟨hO4, hR4, hT4⟩; obtain rfl := told_yes hT4 hk; have H4 := hide hR4; have c14 := hR4.c1; have f14 := hR4.f1))
           go_ret2
           rw [unhide HO]
           exact Tells.yes hk (by first | exact (hOs.none.trans hO3).trans hO4 | exact ((hOs.none.drewN _).trans hO3).trans hO4) hR4
         · go_enter Tryz.func257, Tryz.ntmps257
           go_wp2_with (first | (go_at_call 131; refine (peek_any b L (n) len dp _ (by exact unhide H) hL (by omega)).mono ?_; rintro e wq ⟨rfl, hwq⟩; have hwr := hwq.symm; subst hwr; clear hwq) | (go_at_call 292; refine (shortNumber_any _ _ (by omega)).mono ?_; rintro e w1 ⟨rfl, hOs⟩; have H := hide ((unhide H).keep hOs (fun f => f) (fun _ _ f => f)); have HS := hide ((unhide HS).keep hOs (fun _ _ f => f)); have c1 := (unhide H).c1; have f1 := (unhide H).f1) | (go_at_call 93; refine (take_no b L (n) len dp _ _ (by first | exact unhide H | exact (unhide H).drewN _) hL (by omega) (by decide) (by assumption)).mono ?_; rintro e wq ⟨rfl, qq, rfl⟩) | (go_at_call 93; refine (take_yes b L (n) len dp _ _ (by exact (unhide H).drewN _) hL (by omega) (by decide) (by assumption)).mono ?_; rintro e w3 ⟨rfl, hR3, hO3⟩; have hR3 : RdAt w3 b L ((n) + 1) len dp := hR3; have H3 := hide hR3); (have HS := hide ((unhide HS).mine (by first | exact hO3 | exact ((Only.refl _ _).drewN _).trans hO3) hb)) | (go_at_call 295; refine (hexNumber_any b L (n + 1) len dp a 2 _ (by exact unhide H3) (by exact unhide HS) hb hL (by omega) hF (by omega)).mono ?_; rintro e w4 ⟨hO4, hR4, hT4⟩; obtain ⟨v4, rfl, hv4⟩ := told_no hT4 hk; obtain ⟨g4, hg4⟩ := hv4.form; subst hg4; have H4 := hide hR4; have c14 := hR4.c1; have f14 := hR4.f1))
           go_ret2
           rw [unhide HO]
           exact Tells.no hk (by first | exact (hOs.none.trans hO3).trans hO4 | exact ((hOs.none.drewN _).trans hO3).trans hO4) hR4 (hv4.base (by first | exact (hOs.none.trans hO3).size | exact ((hOs.none.drewN _).trans hO3).size))
       · by_cases q3 : Pro.letAt L n = 117 ∧ Pro.letAt L (n + 1) = 123
         · have HO : Hid (Pro.numO L len n = Pro.bracedP L len (n + 2)) := by unfold Pro.numO; rw [hsh]; simp only [Bool.false_eq_true, if_false]; rw [if_neg q0]; rw [if_neg q1]; rw [if_neg q2]; rw [if_pos q3]; rfl
           have hlt : n < L.length := Pro.letAt_in' (by omega)
           have hlt2 : n + 1 < L.length := Pro.letAt_in' (by omega)
           have m0 : Pro.matchB L n { data := #[48] } = false := by rw [Pro.matchB_one L n 48 48 rfl]; simp; omega
           have m1 : Pro.matchB L n { data := #[99] } = false := by rw [Pro.matchB_one L n 99 99 rfl]; simp; omega
           have m2 : Pro.matchB L n { data := #[120] } = false := by rw [Pro.matchB_one L n 120 120 rfl]; simp; omega
           have m3 : Pro.matchB L n { data := #[117, 123] } = true := by rw [Pro.matchB_two L n 117 123 117 123 rfl rfl]; simp; omega
           clear q0 q1 q2 q3
           by_cases hk : (Pro.bracedP L len (n + 2)).k = 0
           · go_enter Tryz.func257, Tryz.ntmps257
             go_wp2_with (first | (go_at_call 131; refine (peek_any b L (n) len dp _ (by exact unhide H) hL (by omega)).mono ?_; rintro e wq ⟨rfl, hwq⟩; have hwr := hwq.symm; subst hwr; clear hwq) | (go_at_call 292; refine (shortNumber_any _ _ (by omega)).mono ?_; rintro e w1 ⟨rfl, hOs⟩; have H := hide ((unhide H).keep hOs (fun f => f) (fun _ _ f => f)); have HS := hide ((unhide HS).keep hOs (fun _ _ f => f)); have c1 := (unhide H).c1; have f1 := (unhide H).f1) | (go_at_call 93; refine (take_no b L (n) len dp _ _ (by first | exact unhide H | exact (unhide H).drewN _) hL (by omega) (by decide) (by assumption)).mono ?_; rintro e wq ⟨rfl, qq, rfl⟩) | (go_at_call 93; refine (take_yes b L (n) len dp _ _ (by exact (unhide H).drewN _) hL (by omega) (by decide) (by assumption)).mono ?_; rintro e w3 ⟨rfl, hR3, hO3⟩; have hR3 : RdAt w3 b L ((n) + 2) len dp := hR3; have H3 := hide hR3); (have HS := hide ((unhide HS).mine (by first | exact hO3 | exact ((Only.refl _ _).drewN _).trans hO3) hb)) | (go_at_call 296; refine (bracedNumber_any b L (n + 2) len dp a _ (by exact unhide H3) (by exact unhide HS) hb hL (by omega) hF).mono ?_; rintro e w4 ⟨hO4, hR4, hT4⟩; obtain rfl := told_yes hT4 hk; have H4 := hide hR4; have c14 := hR4.c1; have f14 := hR4.f1))
             go_ret2
             rw [unhide HO]
             exact Tells.yes hk (by first | exact (hOs.none.trans hO3).trans hO4 | exact ((hOs.none.drewN _).trans hO3).trans hO4) hR4
           · go_enter Tryz.func257, Tryz.ntmps257
             go_wp2_with (first | (go_at_call 131; refine (peek_any b L (n) len dp _ (by exact unhide H) hL (by omega)).mono ?_; rintro e wq ⟨rfl, hwq⟩; have hwr := hwq.symm; subst hwr; clear hwq) | (go_at_call 292; refine (shortNumber_any _ _ (by omega)).mono ?_; rintro e w1 ⟨rfl, hOs⟩; have H := hide ((unhide H).keep hOs (fun f => f) (fun _ _ f => f)); have HS := hide ((unhide HS).keep hOs (fun _ _ f => f)); have c1 := (unhide H).c1; have f1 := (unhide H).f1) | (go_at_call 93; refine (take_no b L (n) len dp _ _ (by first | exact unhide H | exact (unhide H).drewN _) hL (by omega) (by decide) (by assumption)).mono ?_; rintro e wq ⟨rfl, qq, rfl⟩) | (go_at_call 93; refine (take_yes b L (n) len dp _ _ (by exact (unhide H).drewN _) hL (by omega) (by decide) (by assumption)).mono ?_; rintro e w3 ⟨rfl, hR3, hO3⟩; have hR3 : RdAt w3 b L ((n) + 2) len dp := hR3; have H3 := hide hR3); (have HS := hide ((unhide HS).mine (by first | exact hO3 | exact ((Only.refl _ _).drewN _).trans hO3) hb)) | (go_at_call 296; refine (bracedNumber_any b L (n + 2) len dp a _ (by exact unhide H3) (by exact unhide HS) hb hL (by omega) hF).mono ?_; rintro e w4 ⟨hO4, hR4, hT4⟩; obtain ⟨v4, rfl, hv4⟩ := told_no hT4 hk; obtain ⟨g4, hg4⟩ := hv4.form; subst hg4; have H4 := hide hR4; have c14 := hR4.c1; have f14 := hR4.f1))
             go_ret2
             rw [unhide HO]
             exact Tells.no hk (by first | exact (hOs.none.trans hO3).trans hO4 | exact ((hOs.none.drewN _).trans hO3).trans hO4) hR4 (hv4.base (by first | exact (hOs.none.trans hO3).size | exact ((hOs.none.drewN _).trans hO3).size))
         · by_cases q4 : Pro.letAt L n = 117
           · have HO : Hid (Pro.numO L len n = Pro.unicodeO L len (n + 1)) := by unfold Pro.numO; rw [hsh]; simp only [Bool.false_eq_true, if_false]; rw [if_neg q0]; rw [if_neg q1]; rw [if_neg q2]; rw [if_neg q3]; rw [if_pos q4]; rfl
             have hlt : n < L.length := Pro.letAt_in' (by omega)
             have m0 : Pro.matchB L n { data := #[48] } = false := by rw [Pro.matchB_one L n 48 48 rfl]; simp; omega
             have m1 : Pro.matchB L n { data := #[99] } = false := by rw [Pro.matchB_one L n 99 99 rfl]; simp; omega
             have m2 : Pro.matchB L n { data := #[120] } = false := by rw [Pro.matchB_one L n 120 120 rfl]; simp; omega
             have m3 : Pro.matchB L n { data := #[117, 123] } = false := by rw [Pro.matchB_two L n 117 123 117 123 rfl rfl]; simp; omega
             have m4 : Pro.matchB L n { data := #[117] } = true := by rw [Pro.matchB_one L n 117 117 rfl]; simp; omega
             clear q0 q1 q2 q3 q4
             by_cases hk : (Pro.unicodeO L len (n + 1)).k = 0
             · go_enter Tryz.func257, Tryz.ntmps257
               go_wp2_with (first | (go_at_call 131; refine (peek_any b L (n) len dp _ (by exact unhide H) hL (by omega)).mono ?_; rintro e wq ⟨rfl, hwq⟩; have hwr := hwq.symm; subst hwr; clear hwq) | (go_at_call 292; refine (shortNumber_any _ _ (by omega)).mono ?_; rintro e w1 ⟨rfl, hOs⟩; have H := hide ((unhide H).keep hOs (fun f => f) (fun _ _ f => f)); have HS := hide ((unhide HS).keep hOs (fun _ _ f => f)); have c1 := (unhide H).c1; have f1 := (unhide H).f1) | (go_at_call 93; refine (take_no b L (n) len dp _ _ (by first | exact unhide H | exact (unhide H).drewN _) hL (by omega) (by decide) (by assumption)).mono ?_; rintro e wq ⟨rfl, qq, rfl⟩) | (go_at_call 93; refine (take_yes b L (n) len dp _ _ (by exact (unhide H).drewN _) hL (by omega) (by decide) (by assumption)).mono ?_; rintro e w3 ⟨rfl, hR3, hO3⟩; have hR3 : RdAt w3 b L ((n) + 1) len dp := hR3; have H3 := hide hR3); (have HS := hide ((unhide HS).mine (by first | exact hO3 | exact ((Only.refl _ _).drewN _).trans hO3) hb)) | (go_at_call 297; refine (unicodeNumber_any b L (n + 1) len dp a _ (by exact unhide H3) (by exact unhide HS) hb hL (by omega) hF).mono ?_; rintro e w4 ⟨hO4, hR4, hT4⟩; obtain rfl := told_yes hT4 hk; have H4 := hide hR4; have c14 := hR4.c1; have f14 := hR4.f1))
               go_ret2
               rw [unhide HO]
               exact Tells.yes hk (by first | exact (hOs.none.trans hO3).trans hO4 | exact ((hOs.none.drewN _).trans hO3).trans hO4) hR4
             · go_enter Tryz.func257, Tryz.ntmps257
               go_wp2_with (first | (go_at_call 131; refine (peek_any b L (n) len dp _ (by exact unhide H) hL (by omega)).mono ?_; rintro e wq ⟨rfl, hwq⟩; have hwr := hwq.symm; subst hwr; clear hwq) | (go_at_call 292; refine (shortNumber_any _ _ (by omega)).mono ?_; rintro e w1 ⟨rfl, hOs⟩; have H := hide ((unhide H).keep hOs (fun f => f) (fun _ _ f => f)); have HS := hide ((unhide HS).keep hOs (fun _ _ f => f)); have c1 := (unhide H).c1; have f1 := (unhide H).f1) | (go_at_call 93; refine (take_no b L (n) len dp _ _ (by first | exact unhide H | exact (unhide H).drewN _) hL (by omega) (by decide) (by assumption)).mono ?_; rintro e wq ⟨rfl, qq, rfl⟩) | (go_at_call 93; refine (take_yes b L (n) len dp _ _ (by exact (unhide H).drewN _) hL (by omega) (by decide) (by assumption)).mono ?_; rintro e w3 ⟨rfl, hR3, hO3⟩; have hR3 : RdAt w3 b L ((n) + 1) len dp := hR3; have H3 := hide hR3); (have HS := hide ((unhide HS).mine (by first | exact hO3 | exact ((Only.refl _ _).drewN _).trans hO3) hb)) | (go_at_call 297; refine (unicodeNumber_any b L (n + 1) len dp a _ (by exact unhide H3) (by exact unhide HS) hb hL (by omega) hF).mono ?_; rintro e w4 ⟨hO4, hR4, hT4⟩; obtain ⟨v4, rfl, hv4⟩ := told_no hT4 hk; obtain ⟨g4, hg4⟩ := hv4.form; subst hg4; have H4 := hide hR4; have c14 := hR4.c1; have f14 := hR4.f1))
               go_ret2
               rw [unhide HO]
               exact Tells.no hk (by first | exact (hOs.none.trans hO3).trans hO4 | exact ((hOs.none.drewN _).trans hO3).trans hO4) hR4 (hv4.base (by first | exact (hOs.none.trans hO3).size | exact ((hOs.none.drewN _).trans hO3).size))
           · have HO : Hid (Pro.numO L len n = Pro.bad 3 (Pro.placeAt L len n) n) := by unfold Pro.numO; rw [hsh]; simp only [Bool.false_eq_true, if_false]; rw [if_neg q0]; rw [if_neg q1]; rw [if_neg q2]; rw [if_neg q3]; rw [if_neg q4]; rfl
             have m0 : Pro.matchB L n { data := #[48] } = false := by rw [Pro.matchB_one L n 48 48 rfl]; simp; omega
             have m1 : Pro.matchB L n { data := #[99] } = false := by rw [Pro.matchB_one L n 99 99 rfl]; simp; omega
             have m2 : Pro.matchB L n { data := #[120] } = false := by rw [Pro.matchB_one L n 120 120 rfl]; simp; omega
             have m3 : Pro.matchB L n { data := #[117, 123] } = false := by rw [Pro.matchB_two L n 117 123 117 123 rfl rfl]; simp; omega
             have m4 : Pro.matchB L n { data := #[117] } = false := by rw [Pro.matchB_one L n 117 117 rfl]; simp; omega
             clear q0 q1 q2 q3 q4
             go_enter Tryz.func257, Tryz.ntmps257
             go_wp2_with (first | (go_at_call 131; refine (peek_any b L (n) len dp _ (by exact unhide H) hL (by omega)).mono ?_; rintro e wq ⟨rfl, hwq⟩; have hwr := hwq.symm; subst hwr; clear hwq) | (go_at_call 292; refine (shortNumber_any _ _ (by omega)).mono ?_; rintro e w1 ⟨rfl, hOs⟩; have H := hide ((unhide H).keep hOs (fun f => f) (fun _ _ f => f)); have HS := hide ((unhide HS).keep hOs (fun _ _ f => f)); have c1 := (unhide H).c1; have f1 := (unhide H).f1) | (go_at_call 93; refine (take_no b L (n) len dp _ _ (by first | exact unhide H | exact (unhide H).drewN _) hL (by omega) (by decide) (by assumption)).mono ?_; rintro e wq ⟨rfl, qq, rfl⟩) | (go_at_call 61; refine (wrong_at b L (n) len dp a _ (by exact (unhide H).drewN _) (by exact (unhide HS).drewN _) hL (by omega)).mono ?_; rintro e wq ⟨v, rfl, hv, hO1⟩))
             go_ret2
             exact told_bad (unhide HO) (by decide) ((hOs.none.drewN _).trans hO1.none) (((unhide H).drewN _).keep hO1 (fun f => f) (fun _ _ f => f)) (hv.base hOs.size)
 · have HO : Hid (Pro.numO L len n = Pro.good (Pro.shortV (Pro.letAt L n)) (n + 1)) := by unfold Pro.numO; rw [if_pos hsh]; rfl
   have hlt : n < L.length := by
     by_cases hlt : n < L.length
     · exact hlt
     · rw [Pro.letAt_out (by omega)] at hsh; exact absurd hsh (by decide)
   go_enter Tryz.func257, Tryz.ntmps257
   go_wp2_with (first | (go_at_call 131; refine (peek_any b L (n) len dp _ (by exact unhide H) hL (by omega)).mono ?_; rintro e wq ⟨rfl, hwq⟩; have hwr := hwq.symm; subst hwr; clear hwq) | (go_at_call 292; refine (shortNumber_any _ _ (by omega)).mono ?_; rintro e w1 ⟨rfl, hOs⟩; have H := hide ((unhide H).keep hOs (fun f => f) (fun _ _ f => f)); have HS := hide ((unhide HS).keep hOs (fun _ _ f => f)); have c1 := (unhide H).c1; have f1 := (unhide H).f1))
   go_ret2
   exact told_good (unhide HO) (by rw [unhide HO]; rfl) (hOs.none.mine _ _) ((unhide H).setN _ _ (by omega))
def Own (b base : Nat) (k : Nat) : Prop := k = b ∨ base ≤ k
theorem Own.of {b base : Nat} {w w' : World} (k : Only (Mine b) w w') : Only (Own b base) w w' := k.mono (fun _ _ h => .inl h)
theorem Own.to {b : Nat} {w w' : World} (k : Only (Own b w.heap.size) w w') : Only (Mine b) w w' := k.mono (fun j hj h => by rcases h with h | h; exact h; omega)
structure Trk (base : Nat) (w0 : World) (b : Nat) (L : List (Int × Int)) (n : Nat) (len dp : Int) (a : Nat → Addr) (w : World) : Prop where
 rd : RdAt w b L n len dp
 se : Sents w a
 on : Only (Own b base) w0 w
 hb : 10 ≤ b
 lt : b < base
 le : base ≤ w0.heap.size
section
variable {base : Nat} {w0 : World} {b : Nat} {L : List (Int × Int)} {n : Nat} {len dp : Int} {a : Nat → Addr} {w w' : World}
theorem Trk.start (h : RdAt w b L n len dp) (hS : Sents w a) (hb : 10 ≤ b) : Trk w.heap.size w b L n len dp a w := ⟨h, hS, Only.refl _ _, hb, h.lt, Nat.le_refl _⟩
theorem Trk.drewN (t : Trk base w0 b L n len dp a w) (q : Nat) : Trk base w0 b L n len dp a (w.drewN q) := ⟨t.rd.drewN q, t.se.drewN q, t.on.drewN q, t.hb, t.lt, t.le⟩
theorem Trk.setN (t : Trk base w0 b L n len dp a w) (m : Nat) (j : Int) (hj : j = (m : Int)) : Trk base w0 b L m len dp a (w.setCell ⟨b, 1, none⟩ (.int .i64 j)) := ⟨t.rd.setN m j hj, t.se.mine ((Only.refl _ _).mine _ _) t.hb, t.on.trans (Own.of ((Only.refl _ _).mine _ _)), t.hb, t.lt, t.le⟩
theorem Trk.calm (t : Trk base w0 b L n len dp a w) (k : Only (fun _ => False) w w') : Trk base w0 b L n len dp a w' := ⟨t.rd.keep k (fun f => f) (fun _ _ f => f), t.se.keep k (fun _ _ f => f), t.on.trans k.none, t.hb, t.lt, t.le⟩
theorem Trk.mine {m : Nat} (t : Trk base w0 b L n len dp a w) (k : Only (Mine b) w w') (h : RdAt w' b L m len dp) : Trk base w0 b L m len dp a w' := ⟨h, t.se.mine k t.hb, t.on.trans (Own.of k), t.hb, t.lt, t.le⟩
theorem Trk.c1 (t : Trk base w0 b L n len dp a w) : w.cell? ⟨b, 1, none⟩ = some (.int .i64 n) := t.rd.c1
theorem Trk.f1 (t : Trk base w0 b L n len dp a w) : w.frozen? ⟨b, 1, none⟩ = false := t.rd.f1
theorem Trk.good {o : Pro.Out} {yes yes' no : Value} {v : Int} (t : Trk w0.heap.size w0 b L n len dp a w) (ho : o = Pro.good v n) (hy : yes' = yes) : Tells b L len dp a w0 o yes no (.returned (.tuple #[yes', .nilIface])) w := told_good ho hy (Own.to t.on) t.rd
theorem Trk.bad {o : Pro.Out} {yes no v : Value} {k : Nat} {p : Int} (t : Trk w0.heap.size w0 b L n len dp a w) (ho : o = Pro.bad k p n) (hk : k ≠ 0) (hF : FaultAt w w0.heap.size v (sentV a k) p) : Tells b L len dp a w0 o yes no (.returned (.tuple #[no, v])) w := told_bad ho hk (Own.to t.on) t.rd hF
theorem Trk.yes {o : Pro.Out} {yes no : Value} (t : Trk w0.heap.size w0 b L o.n len dp a w) (hk : o.k = 0) : Tells b L len dp a w0 o yes no (.returned (.tuple #[yes, .nilIface])) w := Tells.yes hk (Own.to t.on) t.rd
theorem Trk.no {o : Pro.Out} {yes no v : Value} (t : Trk w0.heap.size w0 b L o.n len dp a w) (hk : o.k ≠ 0) (hv : FaultAt w w0.heap.size v (sentV a o.k) o.p) : Tells b L len dp a w0 o yes no (.returned (.tuple #[no, v])) w := Tells.no hk (Own.to t.on) t.rd hv
theorem peek_t (t : Trk base w0 b L n len dp a w) (hL : L.length ≤ 400) (hn : n ≤ 1000) :
   Calls Tryz.prog 131 #[.pointer (some ⟨b, 0, none⟩)] w fun x w' => x = .returned (.int .i32 (Pro.letAt L n)) ∧ w' = w := peek_any b L n len dp w t.rd hL hn
theorem ahead_t (k : Nat) (t : Trk base w0 b L n len dp a w) (hL : L.length ≤ 400) (hn : n ≤ 1000) (hk : k ≤ 1000) :
   Calls Tryz.prog 133 #[.pointer (some ⟨b, 0, none⟩), .int .i64 k] w fun x w' => x = .returned (.int .i32 (Pro.letAt L (n + k))) ∧ w' = w := ahead_any b L n len dp k w t.rd hL hn hk
theorem place_t (t : Trk base w0 b L n len dp a w) (hL : L.length ≤ 400) (hn : n ≤ L.length) :
   Calls Tryz.prog 94 #[.pointer (some ⟨b, 0, none⟩)] w fun x w' => x = .returned (.int .i64 (Pro.placeAt L len n)) ∧ ∃ q, w' = w.drewN q := place_any b L n len dp w t.rd hL hn
theorem atEnd_t (t : Trk base w0 b L n len dp a w) :
   Calls Tryz.prog 60 #[.pointer (some ⟨b, 0, none⟩)] w fun x w' => x = .returned (.bool ((n : Int) == (L.length : Int))) ∧ ∃ q, w' = w.drewN q := atEnd_any b L n len dp w t.rd
theorem takeno_t (word : ByteArray) (t : Trk base w0 b L n len dp a w) (hL : L.length ≤ 400) (hn : n ≤ 1000) (hw : word.size ≤ 10) (hm : Pro.matchB L n word = false) :
   Calls Tryz.prog 93 #[.pointer (some ⟨b, 0, none⟩), .string word] w fun x w' => x = .returned (.bool false) ∧ ∃ q, w' = w.drewN q := take_no b L n len dp word w t.rd hL hn hw hm
theorem take_t (word : ByteArray) (t : Trk base w0 b L n len dp a w) (hL : L.length ≤ 400) (hn : n ≤ 1000) (hw : word.size ≤ 10) (hm : Pro.matchB L n word = true) :
   Calls Tryz.prog 93 #[.pointer (some ⟨b, 0, none⟩), .string word] w fun x w' => x = .returned (.bool true) ∧ Trk base w0 b L (n + word.size) len dp a w' :=
 (take_yes b L n len dp word w t.rd hL hn hw hm).mono (by rintro e w1 ⟨rfl, h1, h2⟩; exact ⟨rfl, t.mine h2 h1⟩)
theorem taken_t (word : ByteArray) (t : Trk base w0 b L n len dp a w) (hL : L.length ≤ 400) (hn : n ≤ 1000) (hw : word.size ≤ 10) :
   Calls Tryz.prog 93 #[.pointer (some ⟨b, 0, none⟩), .string word] w fun x w' => x = .returned (.bool (Pro.matchB L n word)) ∧ Trk base w0 b L (Pro.behind L n word) len dp a w' :=
 (take_any b L n len dp word w t.rd hL hn hw).mono (by rintro e w1 ⟨rfl, h1, h2⟩; exact ⟨rfl, t.mine h2 h1⟩)
def rdN (w : World) (b : Nat) : Nat := match w.cell? ⟨b, 1, none⟩ with
 | some v => (intOf v).toNat
 | none => 0
theorem Trk.rdN (t : Trk base w0 b L n len dp a w) : rdN w b = n := by
 unfold Go.Proofs.YtfnkbmglodopkaaGreatDoor.rdN; rw [t.c1]; simp [intOf]
theorem wrong_t (t : Trk base w0 b L n len dp a w) (hL : L.length ≤ 400) (hn : n ≤ L.length) :
   Calls Tryz.prog 61 #[.pointer (some ⟨b, 0, none⟩)] w fun x w' => ∃ v, x = .returned v ∧ FaultAt w' w0.heap.size v (sentV a 3) (Pro.placeAt L len n) ∧ Trk base w0 b L n len dp a w' :=
 (wrong_at b L n len dp a w t.rd t.se hL hn).mono (by rintro e w1 ⟨v, rfl, hv, hO⟩; exact ⟨v, rfl, hv.base t.on.size, t.calm hO⟩)
theorem contains_t (s : ByteArray) (r : Int) (t : Trk base w0 b L n len dp a w) (h1 : r ≤ 1114111) (hs : ∀ b ∈ s.data.toList, b.toNat < 128) (hz : s.size ≤ 20) :
   Calls Tryz.prog 256 #[.string s, .int .i32 r] w fun e w' => e = .returned (.bool (Pro.inB s r)) ∧ Trk base w0 b L n len dp a w' :=
 (contains_any s r w h1 hs hz).mono (by rintro e w1 ⟨rfl, hO⟩; exact ⟨rfl, t.calm hO⟩)
theorem new_t (T : TypeId) (k : Nat) (p : Int) (x : Value) (hx : .iface T x = sentV a k) (t : Trk base w0 b L n len dp a w) :
   Calls Tryz.prog 62 #[.iface T x, .int .i64 p] w fun e w' => ∃ v, e = .returned v ∧ FaultAt w' w0.heap.size v (sentV a k) p ∧ Trk base w0 b L n len dp a w' :=
 (new_any T x p w).mono (by rintro e w1 ⟨v, rfl, hv, hO⟩; rw [hx] at hv; exact ⟨v, rfl, hv.base t.on.size, t.calm hO⟩)
theorem tells_t {f : FuncId} {args : Array Value} {o : Pro.Out} {yes no : Value} (t : Trk base w0 b L n len dp a w) (h : Calls Tryz.prog f args w (Tells b L len dp a w o yes no)) :
   Calls Tryz.prog f args w fun x w' => Trk base w0 b L o.n len dp a w' ∧ ((o.k = 0 ∧ x = .returned (.tuple #[yes, .nilIface])) ∨ (o.k ≠ 0 ∧ ∃ v, x = .returned (.tuple #[no, v]) ∧ FaultAt w' w0.heap.size v (sentV a o.k) o.p)) :=
 h.mono (by
   rintro x w1 ⟨hO, hR, hT⟩
   refine ⟨t.mine hO hR, ?_⟩
   rcases hT with hT | ⟨hk, v, hx, hv⟩
   · exact .inl hT
   · exact .inr ⟨hk, v, hx, hv.base t.on.size⟩)
end
def charV (c : Int) : Value := .iface 206 (.int .i32 c)
def manyV (c : Int) : Value := .iface 207 (.int .i32 c)
def oneV (m : Bool) (c : Int) : Value := match m with
 | true => manyV c
 | false => charV c
theorem pescape_any (b : Nat) (L : List (Int × Int)) (n : Nat) (len dp : Int) (a : Nat → Addr) (w : World) (h : RdAt w b L n len dp) (hS : Sents w a) (hb : 10 ≤ b) (hL : L.length ≤ 400) (hn : n < L.length) (hF : Pro.Fit L) :
   Calls Tryz.prog 217 #[.pointer (some ⟨b, 0, none⟩)] w (Tells b L len dp a w (Pro.escO L len n) (oneV (Pro.setB (Pro.letAt L (n + 1))) (Pro.escO L len n).v) .nilIface) := by
 have T := hide (Trk.start h hS hb)
 have c1 := h.c1
 have f1 := h.f1
 clear h hS
 have hfit := hF (n + 1)
 cases hset : Pro.setB (Pro.letAt L (n + 1))
 · have hset' : Pro.inB { data := #[100, 68, 119, 87, 115, 83] } (Pro.letAt L (n + 1)) = false := hset
   cases hback : Pro.backB (Pro.letAt L (n + 1))
   · have HO : Hid (Pro.escO L len n = Pro.numO L len (n + 1)) := by unfold Pro.escO; rw [if_neg (by simp [hset]), if_neg (by simp [hback])]; rfl
     have hback' : Pro.inB { data := #[49, 50, 51, 52, 53, 54, 55, 56, 57, 107, 112, 80] } (Pro.letAt L (n + 1)) = false := hback
     by_cases hk : (Pro.numO L len (n + 1)).k = 0
     · go_enter Tryz.func217, Tryz.ntmps217
       go_wp2_with (first | (go_at_call 94; refine (place_t (n := n) (by exact unhide T) hL (by omega)).mono ?_; rintro e wq ⟨rfl, qq, rfl⟩) | (go_at_call 131; refine (peek_t (n := n + 1) (by exact ((unhide T).drewN _).setN _ _ (by omega)) hL (by omega)).mono ?_; rintro e wq ⟨rfl, hwq⟩; have hwr := hwq.symm; subst hwr; clear hwq) | (go_at_call 256; refine (contains_t (n := n + 1) _ _ (by first | exact unhide T | exact ((unhide T).drewN _).setN _ _ (by omega)) (by omega) (by decide) (by decide)).mono ?_; rintro e wq ⟨rfl, tq⟩; have T := hide tq; have c1 := tq.c1; have f1 := tq.f1) | (go_at_call 257; refine (tells_t (n := n + 1) (by exact unhide T) (escapedNumber_any b L (n + 1) len dp a _ (Trk.rd (n := n + 1) (by exact unhide T)) (Trk.se (n := n + 1) (by exact unhide T)) hb hL (by omega) hF)).mono ?_; rintro e wq ⟨tq, hT⟩; obtain rfl := told_yes hT hk; clear hT; have T := hide tq; have c1 := tq.c1; have f1 := tq.f1))
       go_ret2
       rw [unhide HO]
       exact (unhide T).yes hk
     · go_enter Tryz.func217, Tryz.ntmps217
       go_wp2_with (first | (go_at_call 94; refine (place_t (n := n) (by exact unhide T) hL (by omega)).mono ?_; rintro e wq ⟨rfl, qq, rfl⟩) | (go_at_call 131; refine (peek_t (n := n + 1) (by exact ((unhide T).drewN _).setN _ _ (by omega)) hL (by omega)).mono ?_; rintro e wq ⟨rfl, hwq⟩; have hwr := hwq.symm; subst hwr; clear hwq) | (go_at_call 256; refine (contains_t (n := n + 1) _ _ (by first | exact unhide T | exact ((unhide T).drewN _).setN _ _ (by omega)) (by omega) (by decide) (by decide)).mono ?_; rintro e wq ⟨rfl, tq⟩; have T := hide tq; have c1 := tq.c1; have f1 := tq.f1) | (go_at_call 257; refine (tells_t (n := n + 1) (by exact unhide T) (escapedNumber_any b L (n + 1) len dp a _ (Trk.rd (n := n + 1) (by exact unhide T)) (Trk.se (n := n + 1) (by exact unhide T)) hb hL (by omega) hF)).mono ?_; rintro e wq ⟨tq, hT⟩; obtain ⟨v, rfl, hv⟩ := told_no hT hk; obtain ⟨gv, hgv⟩ := hv.form; subst hgv; clear hT; have T := hide tq; have c1 := tq.c1; have f1 := tq.f1))
       go_ret2
       rw [unhide HO]
       exact (unhide T).no hk hv
   · have HO : Hid (Pro.escO L len n = Pro.bad 6 (Pro.placeAt L len n) (n + 1)) := by unfold Pro.escO; rw [if_neg (by simp [hset]), if_pos hback]; rfl
     have hback' : Pro.inB { data := #[49, 50, 51, 52, 53, 54, 55, 56, 57, 107, 112, 80] } (Pro.letAt L (n + 1)) = true := hback
     have hs6 := (unhide T).se.s6
     go_enter Tryz.func217, Tryz.ntmps217
     go_wp2_with (first | (go_at_call 94; refine (place_t (n := n) (by exact unhide T) hL (by omega)).mono ?_; rintro e wq ⟨rfl, qq, rfl⟩) | (go_at_call 131; refine (peek_t (n := n + 1) (by exact ((unhide T).drewN _).setN _ _ (by omega)) hL (by omega)).mono ?_; rintro e wq ⟨rfl, hwq⟩; have hwr := hwq.symm; subst hwr; clear hwq) | (go_at_call 256; refine (contains_t (n := n + 1) _ _ (by first | exact unhide T | exact ((unhide T).drewN _).setN _ _ (by omega)) (by omega) (by decide) (by decide)).mono ?_; rintro e wq ⟨rfl, tq⟩; have T := hide tq; have c1 := tq.c1; have f1 := tq.f1); (have hs6 := (unhide T).se.s6) | (go_at_call 62; refine (new_t (n := n + 1) _ 6 _ _ rfl (by exact unhide T)).mono ?_; rintro e wq ⟨v, rfl, hv, tq⟩; have T := hide tq; have c1 := tq.c1; have f1 := tq.f1))
     go_ret2
     exact (unhide T).bad (unhide HO) (by decide) hv
 · have HO : Hid (Pro.escO L len n = Pro.good (Pro.letAt L (n + 1)) (n + 2)) := by unfold Pro.escO; rw [if_pos hset]; rfl
   have hset' : Pro.inB { data := #[100, 68, 119, 87, 115, 83] } (Pro.letAt L (n + 1)) = true := hset
   go_enter Tryz.func217, Tryz.ntmps217
   go_wp2_with (first | (go_at_call 94; refine (place_t (n := n) (by exact unhide T) hL (by omega)).mono ?_; rintro e wq ⟨rfl, qq, rfl⟩) | (go_at_call 131; refine (peek_t (n := n + 1) (by exact ((unhide T).drewN _).setN _ _ (by omega)) hL (by omega)).mono ?_; rintro e wq ⟨rfl, hwq⟩; have hwr := hwq.symm; subst hwr; clear hwq) | (go_at_call 256; refine (contains_t (n := n + 1) _ _ (by exact ((unhide T).drewN _).setN _ _ (by omega)) (by omega) (by decide) (by decide)).mono ?_; rintro e wq ⟨rfl, tq⟩; have T := hide tq; have c1 := tq.c1; have f1 := tq.f1))
   go_ret2
   exact ((unhide T).setN (n + 2) _ (by omega)).good (unhide HO) (by rw [unhide HO]; rfl)
namespace Pro
theorem setB_b : setB 98 = false := by decide
theorem setB_d : setB 45 = false := by decide
theorem many_no {L : List (Int × Int)} {n : Nat} (h : letAt L n ≠ 92) : many L n = false := by unfold many; simp [h]
theorem many_esc {L : List (Int × Int)} {n : Nat} (h : letAt L n = 92) : many L n = setB (letAt L (n + 1)) := by unfold many; simp [h]
end Pro
theorem pmember_any (b : Nat) (L : List (Int × Int)) (n : Nat) (len dp : Int) (a : Nat → Addr) (w : World) (h : RdAt w b L n len dp) (hS : Sents w a) (hb : 10 ≤ b) (hL : L.length ≤ 400) (hn : n < L.length) (hF : Pro.Fit L) :
   Calls Tryz.prog 288 #[.pointer (some ⟨b, 0, none⟩)] w (Tells b L len dp a w (Pro.memberO L len n) (oneV (Pro.many L n) (Pro.memberO L len n).v) .nilIface) := by
 have T := hide (Trk.start h hS hb)
 have c1 := h.c1
 have f1 := h.f1
 clear h hS
 have hfit := hF n
 by_cases he : Pro.letAt L n = 92
 · by_cases h1 : Pro.letAt L (n + 1) = 98
   · have HO : Hid (Pro.memberO L len n = Pro.good 8 (n + 2)) := by unfold Pro.memberO; rw [if_pos ⟨he, h1⟩]; rfl
     have HM : Hid (Pro.many L n = false) := by rw [Pro.many_esc he, h1]; exact Pro.setB_b
     have m1 : Pro.matchB L n { data := #[92, 98] } = true := by rw [Pro.matchB_two L n 92 98 92 98 rfl rfl]; simp [he, h1]
     clear he h1
     go_enter Tryz.func288, Tryz.ntmps288
     go_wp2_with (go_at_call 93; refine (take_t (n := n) _ (by exact unhide T) hL (by omega) (by decide) (by assumption)).mono ?_; rintro e wq ⟨rfl, tq⟩; have tq : Trk _ _ b L ((n) + 2) len dp a wq := tq; have T := hide tq; have c1 := tq.c1; have f1 := tq.f1)
     go_ret2
     exact (unhide T).good (unhide HO) (by rw [unhide HO, unhide HM]; rfl)
   · have m1 : Pro.matchB L n { data := #[92, 98] } = false := by rw [Pro.matchB_two L n 92 98 92 98 rfl rfl]; simp [he, h1]
     by_cases h2 : Pro.letAt L (n + 1) = 45
     · have HO : Hid (Pro.memberO L len n = Pro.good 45 (n + 2)) := by unfold Pro.memberO; rw [if_neg (fun hh => h1 hh.2), if_pos ⟨he, h2⟩]; rfl
       have HM : Hid (Pro.many L n = false) := by rw [Pro.many_esc he, h2]; exact Pro.setB_d
       have m2 : Pro.matchB L n { data := #[92, 45] } = true := by rw [Pro.matchB_two L n 92 45 92 45 rfl rfl]; simp [he, h2]
       clear he h1 h2
       go_enter Tryz.func288, Tryz.ntmps288
       go_wp2_with (first | (go_at_call 93; refine (takeno_t (n := n) _ (by first | exact unhide T | exact (unhide T).drewN _) hL (by omega) (by decide) (by assumption)).mono ?_; rintro e wq ⟨rfl, qq, rfl⟩) | (go_at_call 93; refine (take_t (n := n) _ (by exact (unhide T).drewN _) hL (by omega) (by decide) (by assumption)).mono ?_; rintro e wq ⟨rfl, tq⟩; have tq : Trk _ _ b L ((n) + 2) len dp a wq := tq; have T := hide tq; have c1 := tq.c1; have f1 := tq.f1))
       go_ret2
       exact (unhide T).good (unhide HO) (by rw [unhide HO, unhide HM]; rfl)
     · have m2 : Pro.matchB L n { data := #[92, 45] } = false := by rw [Pro.matchB_two L n 92 45 92 45 rfl rfl]; simp [he, h2]
       have HO : Hid (Pro.memberO L len n = Pro.escO L len n) := by unfold Pro.memberO; rw [if_neg (fun hh => h1 hh.2), if_neg (fun hh => h2 hh.2), if_pos he]; rfl
       have HM : Hid (Pro.many L n = Pro.setB (Pro.letAt L (n + 1))) := Pro.many_esc he
       have he' : (Pro.letAt L n == 92) = true := by simp [he]
       clear he h1 h2
       by_cases hk : (Pro.escO L len n).k = 0
       · go_enter Tryz.func288, Tryz.ntmps288
         go_wp2_with (first | (go_at_call 93; refine (takeno_t (n := n) _ (by first | exact unhide T | exact (unhide T).drewN _) hL (by omega) (by decide) (by assumption)).mono ?_; rintro e wq ⟨rfl, qq, rfl⟩) | (go_at_call 131; refine (peek_t (n := n) (by exact (unhide T).drewN _) hL (by omega)).mono ?_; rintro e wq ⟨rfl, hwq⟩; have hwr := hwq.symm; subst hwr; clear hwq) | (go_at_call 217; refine (tells_t (n := n) (by exact (unhide T).drewN _) (pescape_any b L n len dp a _ (Trk.rd (n := n) (by exact (unhide T).drewN _)) (Trk.se (n := n) (by exact (unhide T).drewN _)) hb hL (by omega) hF)).mono ?_; rintro e wq ⟨tq, hT⟩; obtain rfl := told_yes hT hk; clear hT; have T := hide tq; have c1 := tq.c1; have f1 := tq.f1))
         go_ret2
         rw [unhide HO, unhide HM]
         exact (unhide T).yes hk
       · go_enter Tryz.func288, Tryz.ntmps288
         go_wp2_with (first | (go_at_call 93; refine (takeno_t (n := n) _ (by first | exact unhide T | exact (unhide T).drewN _) hL (by omega) (by decide) (by assumption)).mono ?_; rintro e wq ⟨rfl, qq, rfl⟩) | (go_at_call 131; refine (peek_t (n := n) (by exact (unhide T).drewN _) hL (by omega)).mono ?_; rintro e wq ⟨rfl, hwq⟩; have hwr := hwq.symm; subst hwr; clear hwq) | (go_at_call 217; refine (tells_t (n := n) (by exact (unhide T).drewN _) (pescape_any b L n len dp a _ (Trk.rd (n := n) (by exact (unhide T).drewN _)) (Trk.se (n := n) (by exact (unhide T).drewN _)) hb hL (by omega) hF)).mono ?_; rintro e wq ⟨tq, hT⟩; obtain ⟨v, rfl, hv⟩ := told_no hT hk; obtain ⟨gv, hgv⟩ := hv.form; subst hgv; clear hT; have T := hide tq; have c1 := tq.c1; have f1 := tq.f1))
         go_ret2
         rw [unhide HO, unhide HM]
         exact (unhide T).no hk hv
 · have m1 : Pro.matchB L n { data := #[92, 98] } = false := by rw [Pro.matchB_two L n 92 98 92 98 rfl rfl]; simp [he]
   have m2 : Pro.matchB L n { data := #[92, 45] } = false := by rw [Pro.matchB_two L n 92 45 92 45 rfl rfl]; simp [he]
   have HO : Hid (Pro.memberO L len n = Pro.good (Pro.letAt L n) (n + 1)) := by unfold Pro.memberO; rw [if_neg (fun hh => he hh.1), if_neg (fun hh => he hh.1), if_neg he]; rfl
   have HM : Hid (Pro.many L n = false) := Pro.many_no he
   have he' : (Pro.letAt L n == 92) = false := by simp [he]
   clear he
   go_enter Tryz.func288, Tryz.ntmps288
   go_wp2_with (first | (go_at_call 93; refine (takeno_t (n := n) _ (by first | exact unhide T | exact (unhide T).drewN _) hL (by omega) (by decide) (by assumption)).mono ?_; rintro e wq ⟨rfl, qq, rfl⟩) | (go_at_call 131; refine (peek_t (n := n) (by exact (unhide T).drewN _) hL (by omega)).mono ?_; rintro e wq ⟨rfl, hwq⟩; have hwr := hwq.symm; subst hwr; clear hwq))
   go_ret2
   exact (Trk.setN (by exact (unhide T).drewN _) (n + 1) _ (by omega)).good (unhide HO) (by rw [unhide HO, unhide HM]; rfl)
theorem isRange_any (b : Nat) (L : List (Int × Int)) (n : Nat) (len dp : Int) (a : Nat → Addr) (base : Nat) (w0 w : World) (t : Trk base w0 b L n len dp a w) (hL : L.length ≤ 400) (hn : n ≤ 500) :
   Calls Tryz.prog 289 #[.pointer (some ⟨b, 0, none⟩)] w fun x w' => x = .returned (.bool (Pro.dashB L n)) ∧ w' = w := by
 have T := hide t
 clear t
 by_cases h1 : Pro.letAt L n = 45
 · by_cases h2 : Pro.letAt L (n + 1) = 93
   · have HD : Hid (Pro.dashB L n = false) := by unfold Pro.dashB; simp [h1, h2]; trivial
     go_enter Tryz.func289, Tryz.ntmps289
     go_wp2_with (first | (go_at_call 131; refine (peek_t (n := n) (by exact unhide T) hL (by omega)).mono ?_; rintro e wq ⟨rfl, hwq⟩; have hwr := hwq.symm; subst hwr; clear hwq) | (go_at_call 133; refine (ahead_t (n := n) 1 (by exact unhide T) hL (by omega) (by omega)).mono ?_; rintro e wq ⟨rfl, hwq⟩; have hwr := hwq.symm; subst hwr; clear hwq))
     go_ret
     rw [unhide HD]
     exact ⟨rfl, rfl⟩
   · by_cases h3 : Pro.letAt L (n + 1) = -1
     · have HD : Hid (Pro.dashB L n = false) := by unfold Pro.dashB; simp [h1, h3]; trivial
       go_enter Tryz.func289, Tryz.ntmps289
       go_wp2_with (first | (go_at_call 131; refine (peek_t (n := n) (by exact unhide T) hL (by omega)).mono ?_; rintro e wq ⟨rfl, hwq⟩; have hwr := hwq.symm; subst hwr; clear hwq) | (go_at_call 133; refine (ahead_t (n := n) 1 (by exact unhide T) hL (by omega) (by omega)).mono ?_; rintro e wq ⟨rfl, hwq⟩; have hwr := hwq.symm; subst hwr; clear hwq))
       go_ret
       rw [unhide HD]
       exact ⟨rfl, rfl⟩
     · have HD : Hid (Pro.dashB L n = true) := by unfold Pro.dashB; simp [h1, h2, h3]; trivial
       have h2' : (Pro.letAt L (n + 1) != 93) = true := by simp [h2]
       have h3' : (Pro.letAt L (n + 1) != -1) = true := by simp [h3]
       clear h2 h3
       go_enter Tryz.func289, Tryz.ntmps289
       go_wp2_with (first | (go_at_call 131; refine (peek_t (n := n) (by exact unhide T) hL (by omega)).mono ?_; rintro e wq ⟨rfl, hwq⟩; have hwr := hwq.symm; subst hwr; clear hwq) | (go_at_call 133; refine (ahead_t (n := n) 1 (by exact unhide T) hL (by omega) (by omega)).mono ?_; rintro e wq ⟨rfl, hwq⟩; have hwr := hwq.symm; subst hwr; clear hwq))
       go_ret
       rw [unhide HD]
       exact ⟨rfl, rfl⟩
 · have HD : Hid (Pro.dashB L n = false) := by unfold Pro.dashB; simp [h1]; trivial
   have h1' : (Pro.letAt L n == 45) = false := by simp [h1]
   clear h1
   go_enter Tryz.func289, Tryz.ntmps289
   go_wp2_with (first | (go_at_call 131; refine (peek_t (n := n) (by exact unhide T) hL (by omega)).mono ?_; rintro e wq ⟨rfl, hwq⟩; have hwr := hwq.symm; subst hwr; clear hwq) | (go_at_call 133; refine (ahead_t (n := n) 1 (by exact unhide T) hL (by omega) (by omega)).mono ?_; rintro e wq ⟨rfl, hwq⟩; have hwr := hwq.symm; subst hwr; clear hwq))
   go_ret
   rw [unhide HD]
   exact ⟨rfl, rfl⟩
set_option maxRecDepth 1000000
def rangeCells : List (Int × Int) → List Value
 | [] => []
 | (a, b) :: r => .int .i32 a :: .int .i32 b :: rangeCells r
theorem rangeCells_append : ∀ (l r : List (Int × Int)), rangeCells (l ++ r) = rangeCells l ++ rangeCells r
 | [], r => rfl
 | (a, b) :: l, r => by simp only [List.cons_append, rangeCells, rangeCells_append l r]
def manyCells (l : List Int) : List Value := l.map (Value.int .i32)
structure ClassAt (w : World) (cb : Nat) (neg : Bool) (R : List (Int × Int)) (S : List Int) (v1 v2 : Value) : Prop where
 k0 : w.cell? ⟨cb, 0, none⟩ = some (.bool neg)
 k1 : w.cell? ⟨cb, 1, none⟩ = some v1
 k2 : w.cell? ⟨cb, 2, none⟩ = some v2
 o1 : w.ownsRow (cb + 1) 364 2 v1 R.length (rangeCells R)
 o2 : w.ownsRow (cb + 1) 207 1 v2 S.length (manyCells S)
 f1 : w.frozen? ⟨cb, 1, none⟩ = false
 f2 : w.frozen? ⟨cb, 2, none⟩ = false
theorem ClassAt.lt {w : World} {cb : Nat} {neg : Bool} {R : List (Int × Int)} {S : List Int} {v1 v2 : Value} (h : ClassAt w cb neg R S v1 v2) : cb < w.heap.size := World.block_lt_of_cell? w ⟨cb, 0, none⟩ h.k0
theorem ClassAt.keep {P : Nat → Prop} {w w' : World} {cb : Nat} {neg : Bool} {R : List (Int × Int)} {S : List Int} {v1 v2 : Value} (h : ClassAt w cb neg R S v1 v2) (k : Only P w w') (hn : ∀ g, cb ≤ g → ¬ P g) : ClassAt w' cb neg R S v1 v2 :=
 ⟨(k.cell (p := ⟨cb, 0, none⟩) h.lt (hn _ (Nat.le_refl _))).trans h.k0, (k.cell (p := ⟨cb, 1, none⟩) h.lt (hn _ (Nat.le_refl _))).trans h.k1, (k.cell (p := ⟨cb, 2, none⟩) h.lt (hn _ (Nat.le_refl _))).trans h.k2,
  ownsRow_keep h.o1 k (fun g hg => hn g (by have := (ownsRow_block h.o1 g hg).1; omega)), ownsRow_keep h.o2 k (fun g hg => hn g (by have := (ownsRow_block h.o2 g hg).1; omega)),
  (k.frozen (p := ⟨cb, 1, none⟩) h.lt (hn _ (Nat.le_refl _))).trans h.f1, (k.frozen (p := ⟨cb, 2, none⟩) h.lt (hn _ (Nat.le_refl _))).trans h.f2⟩
theorem Tryz.infoRange : (Tryz.prog.info? 364).map (fun i => (i.zero, i.size, i.bytes)) = some (some (.agg #[.int .i32 0, .int .i32 0]), 2, 8) := by kernel_rfl
theorem Tryz.infoShort : (Tryz.prog.info? 207).map (fun i => (i.zero, i.size, i.bytes)) = some (some (.int .i32 0), 1, 4) := by kernel_rfl
theorem Tryz.isChar (v : Value) (w : World) : (Instr.typeAssert (.iface 206 v) 70 206 true).run Tryz.prog w = .ok (.tuple #[v, .bool true]) w := by kernel_rfl
theorem Tryz.notChar (v : Value) (w : World) : (Instr.typeAssert (.iface 207 v) 70 206 true).run Tryz.prog w = .ok (.tuple #[.int .i32 0, .bool false]) w := by kernel_rfl
theorem Tryz.isMany (v : Value) (w : World) : (Instr.typeAssert (.iface 207 v) 70 207 true).run Tryz.prog w = .ok (.tuple #[v, .bool true]) w := by kernel_rfl
theorem Trk.join {cb : Nat} {w0 w w' : World} {b : Nat} {L : List (Int × Int)} {n m : Nat} {len dp : Int} {a : Nat → Addr} (t : Trk cb w0 b L n len dp a w) (T : Trk w.heap.size w b L m len dp a w') : Trk cb w0 b L m len dp a w' := t.mine (Own.to T.on) T.rd
theorem ClassAt.step {cb : Nat} {w w' : World} {b : Nat} {L : List (Int × Int)} {m : Nat} {len dp : Int} {a : Nat → Addr} {neg : Bool} {R : List (Int × Int)} {S : List Int} {v1 v2 : Value} (h : ClassAt w cb neg R S v1 v2) (hbc : b < cb) (T : Trk w.heap.size w b L m len dp a w') : ClassAt w' cb neg R S v1 v2 :=
 h.keep (Own.to T.on) (fun g hg e => by unfold Mine at e; omega)
theorem Trk.push {cb : Nat} {w0 w w' : World} {b : Nat} {L : List (Int × Int)} {n : Nat} {len dp : Int} {a : Nat → Addr} (t : Trk cb w0 b L n len dp a w) (k : Only (fun g => cb ≤ g) w w') : Trk cb w0 b L n len dp a w' :=
 have hb := t.hb
 have hl := t.lt
 ⟨t.rd.keep k (by show ¬ cb ≤ b; omega) (fun g hg => by show ¬ cb ≤ g; omega), t.se.keep k (fun j hj => by show ¬ cb ≤ j; omega), t.on.trans (k.mono (fun _ _ h => .inr h)), hb, hl, t.le⟩
theorem ClassAt.push1 {w W w' : World} {cb : Nat} {neg : Bool} {R : List (Int × Int)} {S : List Int} {v1 v2 v' : Value} {x y : Int} (h : ClassAt w cb neg R S v1 v2) (hW : Only (fun _ => False) w W) (_hoW : W.ownsRow (cb + 1) 364 2 v1 R.length (rangeCells R)) (hg : W.grownBy w' v1.ownBlock)
   (ho : w'.ownsRow (cb + 1) 364 2 v' (R.length + 1) (rangeCells R ++ [.int .i32 x, .int .i32 y])) : ClassAt (w'.setCell ⟨cb, 1, none⟩ v') cb neg (R ++ [(x, y)]) S v' v2 ∧ Only (fun g => cb ≤ g) w (w'.setCell ⟨cb, 1, none⟩ v') := by
 have hlt := h.lt
 have k : Only (fun g => v1.ownBlock = some g) w w' := (hW.mono (fun _ _ f => f.elim)).trans (Only.ofGrown hg)
 have hn : ¬ (v1.ownBlock = some cb) := fun e => by have := (ownsRow_block h.o1 cb e).1; omega
 have c0 := (k.cell (p := ⟨cb, 0, none⟩) hlt hn).trans h.k0
 have c1 := (k.cell (p := ⟨cb, 1, none⟩) hlt hn).trans h.k1
 have c2 := (k.cell (p := ⟨cb, 2, none⟩) hlt hn).trans h.k2
 have f1 := (k.frozen (p := ⟨cb, 1, none⟩) hlt hn).trans h.f1
 have f2 := (k.frozen (p := ⟨cb, 2, none⟩) hlt hn).trans h.f2
 have hS : Only (fun g => g = cb) w' (w'.setCell ⟨cb, 1, none⟩ v') := (Only.refl (fun g => g = cb) w').setCell (p := ⟨cb, 1, none⟩) (.inl rfl) v'
 have o2 : w'.ownsRow (cb + 1) 207 1 v2 S.length (manyCells S) := ownsRow_keep h.o2 k (fun g hg1 hg2 => own_ne h.o2 h.o1 (by decide) g hg1 hg2)
 refine ⟨⟨(World.cell?_setCell_other _ _ _ _ (by simp)).trans c0, World.cell?_setCell_same _ _ _ c1, (World.cell?_setCell_other _ _ _ _ (by simp)).trans c2, ?_, ?_, (frozen_setCell _ _ _ _).trans f1, (frozen_setCell _ _ _ _).trans f2⟩, ?_⟩
 · rw [rangeCells_append, List.length_append]
   exact ownsRow_keep ho hS (fun g hg1 e => by have := (ownsRow_block ho g hg1).1; omega)
 · exact ownsRow_keep o2 hS (fun g hg1 e => by have := (ownsRow_block o2 g hg1).1; omega)
 · exact (k.mono (fun g _ e => by have := (ownsRow_block h.o1 g e).1; show cb ≤ g; omega)).trans (hS.mono (fun g _ e => by show cb ≤ g; omega))
theorem ClassAt.push2 {w W w' : World} {cb : Nat} {neg : Bool} {R : List (Int × Int)} {S : List Int} {v1 v2 v' : Value} {x : Int} (h : ClassAt w cb neg R S v1 v2) (hW : Only (fun _ => False) w W) (_hoW : W.ownsRow (cb + 1) 207 1 v2 S.length (manyCells S)) (hg : W.grownBy w' v2.ownBlock)
   (ho : w'.ownsRow (cb + 1) 207 1 v' (S.length + 1) (manyCells S ++ [.int .i32 x])) : ClassAt (w'.setCell ⟨cb, 2, none⟩ v') cb neg R (S ++ [x]) v1 v' ∧ Only (fun g => cb ≤ g) w (w'.setCell ⟨cb, 2, none⟩ v') := by
 have hlt := h.lt
 have k : Only (fun g => v2.ownBlock = some g) w w' := (hW.mono (fun _ _ f => f.elim)).trans (Only.ofGrown hg)
 have hn : ¬ (v2.ownBlock = some cb) := fun e => by have := (ownsRow_block h.o2 cb e).1; omega
 have c0 := (k.cell (p := ⟨cb, 0, none⟩) hlt hn).trans h.k0
 have c1 := (k.cell (p := ⟨cb, 1, none⟩) hlt hn).trans h.k1
 have c2 := (k.cell (p := ⟨cb, 2, none⟩) hlt hn).trans h.k2
 have f1 := (k.frozen (p := ⟨cb, 1, none⟩) hlt hn).trans h.f1
 have f2 := (k.frozen (p := ⟨cb, 2, none⟩) hlt hn).trans h.f2
 have hS : Only (fun g => g = cb) w' (w'.setCell ⟨cb, 2, none⟩ v') := (Only.refl (fun g => g = cb) w').setCell (p := ⟨cb, 2, none⟩) (.inl rfl) v'
 have o1 : w'.ownsRow (cb + 1) 364 2 v1 R.length (rangeCells R) := ownsRow_keep h.o1 k (fun g hg1 hg2 => own_ne h.o1 h.o2 (by decide) g hg1 hg2)
 refine ⟨⟨(World.cell?_setCell_other _ _ _ _ (by simp)).trans c0, (World.cell?_setCell_other _ _ _ _ (by simp)).trans c1, World.cell?_setCell_same _ _ _ c2, ?_, ?_, (frozen_setCell _ _ _ _).trans f1, (frozen_setCell _ _ _ _).trans f2⟩, ?_⟩
 · exact ownsRow_keep o1 hS (fun g hg1 e => by have := (ownsRow_block o1 g hg1).1; omega)
 · unfold manyCells at ho ⊢
   rw [List.map_append, List.length_append]
   exact ownsRow_keep ho hS (fun g hg1 e => by have := (ownsRow_block ho g hg1).1; omega)
 · exact (k.mono (fun g _ e => by have := (ownsRow_block h.o2 g e).1; show cb ≤ g; omega)).trans (hS.mono (fun g _ e => by show cb ≤ g; omega))
theorem ClassAt.cells {w W w' : World} {cb : Nat} {neg : Bool} {R : List (Int × Int)} {S : List Int} {v1 v2 : Value} {o : Option Nat} (h : ClassAt w cb neg R S v1 v2) (hW : Only (fun _ => False) w W) (hg : W.grownBy w' o) (hn : ¬ (o = some cb)) : w'.cell? ⟨cb, 1, none⟩ = some v1 ∧ w'.cell? ⟨cb, 2, none⟩ = some v2 ∧ w'.frozen? ⟨cb, 1, none⟩ = false ∧ w'.frozen? ⟨cb, 2, none⟩ = false := by
 have hlt := h.lt
 have k : Only (fun g => o = some g) w w' := (hW.mono (fun _ _ f => f.elim)).trans (Only.ofGrown hg)
 exact ⟨(k.cell (p := ⟨cb, 1, none⟩) hlt hn).trans h.k1, (k.cell (p := ⟨cb, 2, none⟩) hlt hn).trans h.k2, (k.frozen (p := ⟨cb, 1, none⟩) hlt hn).trans h.f1, (k.frozen (p := ⟨cb, 2, none⟩) hlt hn).trans h.f2⟩
theorem ClassAt.n1 {w : World} {cb : Nat} {neg : Bool} {R : List (Int × Int)} {S : List Int} {v1 v2 : Value} (h : ClassAt w cb neg R S v1 v2) : ¬ (v1.ownBlock = some cb) := fun e => by have := (ownsRow_block h.o1 cb e).1; omega
theorem ClassAt.n2 {w : World} {cb : Nat} {neg : Bool} {R : List (Int × Int)} {S : List Int} {v1 v2 : Value} (h : ClassAt w cb neg R S v1 v2) : ¬ (v2.ownBlock = some cb) := fun e => by have := (ownsRow_block h.o2 cb e).1; omega
def Adds (b : Nat) (L : List (Int × Int)) (len dp : Int) (a : Nat → Addr) (cb : Nat) (w0 : World) (o : Pro.Out) (neg : Bool) (R : List (Int × Int)) (S : List Int) (x : Ending) (w' : World) : Prop :=
 Trk cb w0 b L o.n len dp a w' ∧ ((o.k = 0 ∧ x = .returned .nilIface ∧ ∃ v1 v2, ClassAt w' cb neg R S v1 v2) ∨ (o.k ≠ 0 ∧ ∃ v, x = .returned v ∧ FaultAt w' w0.heap.size v (sentV a o.k) o.p))
namespace Pro
theorem dashB_yes {L : List (Int × Int)} {n : Nat} (h : dashB L n = true) : letAt L n = 45 ∧ letAt L (n + 1) ≠ 93 ∧ letAt L (n + 1) ≠ -1 := by
 unfold dashB at h; simpa [and_assoc] using h
theorem letAt_ne {L : List (Int × Int)} {n : Nat} (h : letAt L n ≠ -1) : n < L.length := by
 by_cases hn : n < L.length
 · exact hn
 · exact absurd (letAt_out (by omega)) h
end Pro
theorem addRange_any (b : Nat) (L : List (Int × Int)) (n : Nat) (len dp : Int) (a : Nat → Addr) (cb : Nat) (w0 w : World) (neg : Bool) (R : List (Int × Int)) (S : List Int) (v1 v2 : Value) (m : Bool) (c : Int) (t : Trk cb w0 b L n len dp a w) (hC : ClassAt w cb neg R S v1 v2) (hL : L.length ≤ 400) (hd : Pro.dashB L n = true) (hF : Pro.Fit L) (hR : R.length ≤ 400) :
   Calls Tryz.prog 290 #[.pointer (some ⟨b, 0, none⟩), .pointer (some ⟨cb, 0, none⟩), oneV m c] w (Adds b L len dp a cb w0 (Pro.rangeO L len m c n) neg (R ++ [(c, (Pro.memberO L len (n + 1)).v)]) S) := by
 obtain ⟨i0, hi, hz0, hz1, hz2⟩ := info_parts Tryz.infoRange
 have hdd := Pro.dashB_yes hd
 have hn1 : n + 1 < L.length := Pro.letAt_ne hdd.2.2
 clear hd hdd
 have T0 := hide t
 have T := hide (Trk.start t.rd t.se t.hb)
 have hsz := t.on.size
 have hbc := t.lt
 have c1 := t.c1
 have f1 := t.f1
 have HC := hide hC
 have hs4 := t.se.s4
 have hgen : ∀ X : Value, X = oneV m c → Calls Tryz.prog 290 #[.pointer (some ⟨b, 0, none⟩), .pointer (some ⟨cb, 0, none⟩), X] w (Adds b L len dp a cb w0 (Pro.rangeO L len m c n) neg (R ++ [(c, (Pro.memberO L len (n + 1)).v)]) S) := by
   intro X hX
   by_cases hk : (Pro.memberO L len (n + 1)).k = 0
   · by_cases hbad : m = true ∨ Pro.many L (n + 1) = true ∨ (Pro.memberO L len (n + 1)).v < c
     · have HO : Hid (Pro.rangeO L len m c n = Pro.bad 4 (Pro.placeAt L len n) (Pro.memberO L len (n + 1)).n) := by unfold Pro.rangeO; rw [if_neg (by simp [hk]), if_pos hbad]; rfl
       clear t hC
       have hcs : (X = .iface 207 (.int .i32 c)) ∨ (X = .iface 206 (.int .i32 c) ∧ oneV (Pro.many L (n + 1)) (Pro.memberO L len (n + 1)).v = .iface 207 (.int .i32 (Pro.memberO L len (n + 1)).v)) ∨
           (X = .iface 206 (.int .i32 c) ∧ oneV (Pro.many L (n + 1)) (Pro.memberO L len (n + 1)).v = .iface 206 (.int .i32 (Pro.memberO L len (n + 1)).v) ∧ (Pro.memberO L len (n + 1)).v < c) := by
         cases m with
         | true => left; exact hX
         | false =>
           right
           cases hmm : Pro.many L (n + 1) with
           | true => left; exact ⟨hX, rfl⟩
           | false => right; exact ⟨hX, rfl, by rw [hmm] at hbad; simpa using hbad⟩
       clear hbad hX
       have a1 := Tryz.isChar
       have a2 := Tryz.notChar
       rcases hcs with rfl | ⟨rfl, hv2⟩ | ⟨rfl, hv2, hlt⟩
       · cases hmm : Pro.many L (n + 1)
         · have hv2 : oneV false (Pro.memberO L len (n + 1)).v = .iface 206 (.int .i32 (Pro.memberO L len (n + 1)).v) := rfl
           go_enter Tryz.func290, Tryz.ntmps290
           go_wp2_with (first | (go_at_call 94; refine (place_t (n := n) (by exact unhide T) hL (by omega)).mono ?_; rintro e wq ⟨rfl, qq, rfl⟩) | (go_at_call 288; refine (tells_t (n := n + 1) (by exact ((unhide T).drewN _).setN _ _ (by omega)) (pmember_any b L (n + 1) len dp a _ (Trk.rd (n := n + 1) (by exact ((unhide T).drewN _).setN _ _ (by omega))) (Trk.se (n := n + 1) (by exact ((unhide T).drewN _).setN _ _ (by omega))) (unhide T).hb hL (by omega) hF)).mono ?_; rintro e wq ⟨tq, hT⟩; obtain rfl := told_yes hT hk; clear hT; have T := hide tq; have c1 := tq.c1; have f1 := tq.f1); (have hs4 := (unhide T).se.s4) | (go_at_call 62; refine (new_t (n := (Pro.memberO L len (n + 1)).n) _ 4 _ _ rfl (by exact unhide T)).mono ?_; rintro e wq ⟨v, rfl, hv, tq⟩; have T := hide tq; have c1 := tq.c1; have f1 := tq.f1))
           go_ret
           rw [unhide HO]
           exact ⟨(unhide T0).join (unhide T), .inr ⟨(show (4 : Nat) ≠ 0 by decide), _, rfl, hv.base hsz⟩⟩
         · have hv2 : oneV true (Pro.memberO L len (n + 1)).v = .iface 207 (.int .i32 (Pro.memberO L len (n + 1)).v) := rfl
           go_enter Tryz.func290, Tryz.ntmps290
           go_wp2_with (first | (go_at_call 94; refine (place_t (n := n) (by exact unhide T) hL (by omega)).mono ?_; rintro e wq ⟨rfl, qq, rfl⟩) | (go_at_call 288; refine (tells_t (n := n + 1) (by exact ((unhide T).drewN _).setN _ _ (by omega)) (pmember_any b L (n + 1) len dp a _ (Trk.rd (n := n + 1) (by exact ((unhide T).drewN _).setN _ _ (by omega))) (Trk.se (n := n + 1) (by exact ((unhide T).drewN _).setN _ _ (by omega))) (unhide T).hb hL (by omega) hF)).mono ?_; rintro e wq ⟨tq, hT⟩; obtain rfl := told_yes hT hk; clear hT; have T := hide tq; have c1 := tq.c1; have f1 := tq.f1); (have hs4 := (unhide T).se.s4) | (go_at_call 62; refine (new_t (n := (Pro.memberO L len (n + 1)).n) _ 4 _ _ rfl (by exact unhide T)).mono ?_; rintro e wq ⟨v, rfl, hv, tq⟩; have T := hide tq; have c1 := tq.c1; have f1 := tq.f1))
           go_ret
           rw [unhide HO]
           exact ⟨(unhide T0).join (unhide T), .inr ⟨(show (4 : Nat) ≠ 0 by decide), _, rfl, hv.base hsz⟩⟩
       all_goals
         go_enter Tryz.func290, Tryz.ntmps290
         go_wp2_with (first | (go_at_call 94; refine (place_t (n := n) (by exact unhide T) hL (by omega)).mono ?_; rintro e wq ⟨rfl, qq, rfl⟩) | (go_at_call 288; refine (tells_t (n := n + 1) (by exact ((unhide T).drewN _).setN _ _ (by omega)) (pmember_any b L (n + 1) len dp a _ (Trk.rd (n := n + 1) (by exact ((unhide T).drewN _).setN _ _ (by omega))) (Trk.se (n := n + 1) (by exact ((unhide T).drewN _).setN _ _ (by omega))) (unhide T).hb hL (by omega) hF)).mono ?_; rintro e wq ⟨tq, hT⟩; obtain rfl := told_yes hT hk; clear hT; have T := hide tq; have c1 := tq.c1; have f1 := tq.f1); (have hs4 := (unhide T).se.s4) | (go_at_call 62; refine (new_t (n := (Pro.memberO L len (n + 1)).n) _ 4 _ _ rfl (by exact unhide T)).mono ?_; rintro e wq ⟨v, rfl, hv, tq⟩; have T := hide tq; have c1 := tq.c1; have f1 := tq.f1))
         go_ret
         rw [unhide HO]
         exact ⟨(unhide T0).join (unhide T), .inr ⟨(show (4 : Nat) ≠ 0 by decide), _, rfl, hv.base hsz⟩⟩
     · have HO : Hid (Pro.rangeO L len m c n = Pro.memberO L len (n + 1)) := by unfold Pro.rangeO; rw [if_neg (by simp [hk]), if_neg hbad]; rfl
       have hm0 : m = false := by cases m with | true => exact absurd (.inl rfl) hbad | false => rfl
       have hmm : Pro.many L (n + 1) = false := by cases hh : Pro.many L (n + 1) with | true => exact absurd (.inr (.inl hh)) hbad | false => rfl
       have hge : c ≤ (Pro.memberO L len (n + 1)).v := by by_cases hh : (Pro.memberO L len (n + 1)).v < c; exact absurd (.inr (.inr hh)) hbad; omega
       subst hm0
       have hX' : X = .iface 206 (.int .i32 c) := hX
       clear hX
       subst hX'
       have hv2 : oneV false (Pro.memberO L len (n + 1)).v = .iface 206 (.int .i32 (Pro.memberO L len (n + 1)).v) := rfl
       have a1 := Tryz.isChar
       clear hbad t hC
       go_enter Tryz.func290, Tryz.ntmps290
       go_wp2_with (first | (go_at_call 94; refine (place_t (n := n) (by exact unhide T) hL (by omega)).mono ?_; rintro e wq ⟨rfl, qq, rfl⟩) | (go_at_call 288; refine (tells_t (n := n + 1) (by exact ((unhide T).drewN _).setN _ _ (by omega)) (pmember_any b L (n + 1) len dp a _ (Trk.rd (n := n + 1) (by exact ((unhide T).drewN _).setN _ _ (by omega))) (Trk.se (n := n + 1) (by exact ((unhide T).drewN _).setN _ _ (by omega))) (unhide T).hb hL (by omega) hF)).mono ?_; rintro e wq ⟨tq, hT⟩; obtain rfl := told_yes hT hk; clear hT; have T := hide tq; have c1 := tq.c1; have f1 := tq.f1); (have hC1 := (unhide HC).step hbc (unhide T)); (have k1 := hC1.k1); (have q1 := hC1.f1); (have ho1 := hC1.o1); (obtain ⟨sa, sn, sc, rfl⟩ := own_slice ho1); (have hlc := hC1.lt); (have HC1 := hide hC1); (clear hC1); (have Ho1 := hide ho1); (clear ho1) | (at_builtin; refine wpList_append_own _ rfl _ _ 208 rfl (cb + 1) 364 i0 (.agg #[.int .i32 0, .int .i32 0]) 2 8 Tryz.underlying208 hi hz0 hz1 hz2 rfl (by decide) _ _ _ rfl (World.ownsRow.alloc (unhide Ho1) _) _ 1 1 [.int .i32 c, .int .i32 (Pro.memberO L len (n + 1)).v] rfl rfl (cell_two_new _ _ _ _) (fun x hx => by simp at hx; rcases hx with rfl | rfl <;> rfl) (by unfold maxLen; omega) (by omega) (by simp; omega) ?_; intro v' w8 hown' hgrow hnil; obtain ⟨pa, pn, pc, rfl⟩ := own_slice hown'; have hcs8 := (unhide HC1).cells ((Only.refl _ _).alloc _) hgrow (unhide HC1).n1; have HP := hide ((unhide HC1).push1 ((Only.refl _ _).alloc _) (World.ownsRow.alloc (unhide Ho1) _) hgrow hown'); clear hown' hgrow hnil; obtain ⟨z1, z2, z3, z4⟩ := hcs8))
       go_ret
       rw [unhide HO]
       exact ⟨((unhide T0).join (unhide T)).push (unhide HP).2, .inl ⟨hk, rfl, _, _, (unhide HP).1⟩⟩
   · have HO : Hid (Pro.rangeO L len m c n = Pro.memberO L len (n + 1)) := by unfold Pro.rangeO; rw [if_pos hk]; rfl
     clear t hC
     go_enter Tryz.func290, Tryz.ntmps290
     go_wp2_with (first | (go_at_call 94; refine (place_t (n := n) (by exact unhide T) hL (by omega)).mono ?_; rintro e wq ⟨rfl, qq, rfl⟩) | (go_at_call 288; refine (tells_t (n := n + 1) (by exact ((unhide T).drewN _).setN _ _ (by omega)) (pmember_any b L (n + 1) len dp a _ (Trk.rd (n := n + 1) (by exact ((unhide T).drewN _).setN _ _ (by omega))) (Trk.se (n := n + 1) (by exact ((unhide T).drewN _).setN _ _ (by omega))) (unhide T).hb hL (by omega) hF)).mono ?_; rintro e wq ⟨tq, hT⟩; obtain ⟨v, rfl, hv⟩ := told_no hT hk; obtain ⟨gv, hgv⟩ := hv.form; subst hgv; clear hT; have T := hide tq; have c1 := tq.c1; have f1 := tq.f1); (have hs4 := (unhide T).se.s4) | (go_at_call 62; refine (new_t (n := (Pro.memberO L len (n + 1)).n) _ 4 _ _ rfl (by exact unhide T)).mono ?_; rintro e wq ⟨v, rfl, hv, tq⟩; have T := hide tq; have c1 := tq.c1; have f1 := tq.f1))
     go_ret
     rw [unhide HO]
     exact ⟨(unhide T0).join (unhide T), .inr ⟨hk, _, rfl, hv.base hsz⟩⟩
 exact hgen _ rfl
end
end Go.Proofs.YtfnkbmglodopkaaGreatDoor
