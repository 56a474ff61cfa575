/- The assertions of the reader's trees, and of the programs made of them. The program's classes, with what they hold. The program's assertions and atoms, with what they are. The program's terms, as trees. The program's terms one behind the other, as trees. The program's alternatives, as trees. The program's groups, and so its patterns, as trees: by how deep they may still go. The sizes that the reader tells are the sizes of its trees: plain. -/
import Derived.Test.YtfnkbmglodopkaaGreatDoorZTrATrK
import Derived.Test.YtfnkbmglodopkaaGreatDoorZSemGSemI
import Derived.Test.YtfnkbmglodopkaaGreatDoorZParAParC
namespace Go.Proofs.YtfnkbmglodopkaaGreatDoor
section
open Sm (Tree Stp)
namespace Pro
def AsOK : Nat → Tree → Prop
 | 0, _ => True
 | f + 1, T => (T.kind = 0 → 0 ≤ T.a ∧ T.a ≤ 3) ∧ ∀ t ∈ T.kids, AsOK f t
section
variable {L : List (Int × Int)} {len : Int}
theorem as_leaf {T : Tree} (h0 : T.kind ≠ 0) (hk : T.kids = []) : ∀ f, AsOK f T
 | 0 => trivial
 | f + 1 => ⟨fun e => absurd e h0, fun t ht => by rw [hk] at ht; cases ht⟩
theorem as_kids {T : Tree} (h0 : T.kind ≠ 0) (h : ∀ t ∈ T.kids, ∀ f, AsOK f t) : ∀ f, AsOK f T
 | 0 => trivial
 | f + 1 => ⟨fun e => absurd e h0, fun t ht => h t ht f⟩
theorem as_asr (n : Nat) : ∀ f, AsOK f (tAsr (asV L n))
 | 0 => trivial
 | f + 1 => ⟨fun _ => by
     show 0 ≤ asV L n ∧ asV L n ≤ 3
     unfold asV
     split
     · omega
     · split
       · omega
       · split <;> omega, fun t ht => by simp [tAsr] at ht⟩
theorem atomT_as {DT : Nat → Tree} (hD : ∀ n f, AsOK f (DT n)) (n f : Nat) : AsOK f (atomT L len DT n) := by
 unfold atomT
 split
 · exact hD n f
 · split
   · exact as_leaf (by simp [classT, tCls]) rfl f
   · split
     · unfold oneT
       split
       · exact as_leaf (by simp [tShort]) rfl f
       · exact as_leaf (by simp [tChar]) rfl f
     · split
       · exact as_leaf (by simp [tAny]) rfl f
       · exact as_leaf (by simp [tChar]) rfl f
theorem termT_as {D : Nat → Out} {DT : Nat → Tree} (hD : ∀ n f, AsOK f (DT n)) (n f : Nat) : AsOK f (termT L len D DT n) := by
 unfold termT
 split
 · exact as_asr n f
 · split
   · exact atomT_as hD n f
   · refine as_kids (by simp [tRep]) (fun t ht f => ?_) f
     obtain rfl : t = atomT L len DT n := by simpa [tRep] using ht
     exact atomT_as hD n f
theorem termsT_as {D : Nat → Out} {DT : Nat → Tree} (hD : ∀ n f, AsOK f (DT n)) : ∀ (g : Nat) (ts : List Tree) (n : Nat), (∀ t ∈ ts, ∀ f, AsOK f t) → ∀ t ∈ termsT L len D DT g ts n, ∀ f, AsOK f t
 | 0, _, _, h => h
 | g + 1, ts, n, h => by
   unfold termsT
   split
   · exact h
   · refine termsT_as hD g _ _ (fun t ht => ?_)
     rcases List.mem_append.1 ht with ht | ht
     · exact h t ht
     · obtain rfl := List.mem_singleton.1 ht
       exact fun f => termT_as hD n f
theorem termsQ_as {D : Nat → Out} {DT : Nat → Tree} (hD : ∀ n f, AsOK f (DT n)) (n f : Nat) : AsOK f (termsQ L len D DT n) :=
 as_kids (by simp [termsQ, tSeq]) (termsT_as hD _ [] n (by simp)) f
theorem altT_as {D : Nat → Out} {DT : Nat → Tree} (hD : ∀ n f, AsOK f (DT n)) : ∀ (g : Nat) (ts : List Tree) (n : Nat), (∀ t ∈ ts, ∀ f, AsOK f t) → ∀ t ∈ altT L len D DT g ts n, ∀ f, AsOK f t
 | 0, _, _, h => h
 | g + 1, ts, n, h => by
   have h2 : ∀ t ∈ ts ++ [termsQ L len D DT n], ∀ f, AsOK f t := fun t ht => by
     rcases List.mem_append.1 ht with ht | ht
     · exact h t ht
     · obtain rfl := List.mem_singleton.1 ht
       exact fun f => termsQ_as hD n f
   unfold altT
   split
   · exact altT_as hD g _ _ h2
   · exact h2
theorem altQ_as {D : Nat → Out} {DT : Nat → Tree} (hD : ∀ n f, AsOK f (DT n)) (n f : Nat) : AsOK f (altQ L len D DT n) :=
 as_kids (by simp [altQ, tAlt]) (altT_as hD _ [] n (by simp)) f
theorem deepT_as : ∀ (r n f : Nat), AsOK f (deepT L len r n)
 | 0, _, f => as_leaf (by simp [deepT, tAny]) rfl f
 | r + 1, _, f => altQ_as (fun n f => deepT_as r n f) _ f
end
end Pro
namespace Sm
variable {P : Stp → Prop} {B : Tree → Nat → List Stp → Nat × List Stp}
end Sm
end
section
open Go.RowKit
open Sm (Tree)
set_option maxHeartbeats 4000000
set_option maxRecDepth 1000000
theorem pclassT_any (b : Nat) (L : List (Int × Int)) (n : Nat) (len dp : Int) (a : Nat → Addr) (w : World) (h : RdAt w b L n len dp) (hS : Sents w a) (hb : 10 ≤ b) (hL : L.length ≤ 400) (hn : n < L.length) (hF : Pro.Fit L) :
   Calls Tryz.prog 216 #[.pointer (some ⟨b, 0, none⟩)] w fun x w' => ∃ cv, Tells b L len dp a w (Pro.classP L len n) (.iface 211 cv) .nilIface x w' ∧ ((Pro.classP L len n).k = 0 → LeafAt w' (fun g => w.heap.size ≤ g) (.iface 211 cv) (Pro.classT L len n)) := by
 have T := hide (Trk.start h hS hb)
 have c1 := h.c1
 have f1 := h.f1
 clear h hS
 have hbe : (Pro.behind L (n + 1) { data := #[94] } = n + 1 ∧ Pro.letAt L (n + 1) ≠ 94) ∨ (Pro.behind L (n + 1) { data := #[94] } = n + 2 ∧ Pro.letAt L (n + 1) = 94) := by
   by_cases hneg : Pro.letAt L (n + 1) = 94
   · right; exact ⟨Pro.behind_yes (by rw [Pro.matchB_one L (n + 1) 94 94 rfl]; simp [hneg]), hneg⟩
   · left; exact ⟨Pro.behind_no (by rw [Pro.matchB_one L (n + 1) 94 94 rfl]; simp [hneg]), hneg⟩
 have hN : n + 1 ≤ Pro.behind L (n + 1) { data := #[94] } ∧ Pro.behind L (n + 1) { data := #[94] } ≤ L.length := by
   rcases hbe with ⟨e, _⟩ | ⟨e, h1⟩
   · omega
   · have : n + 1 < L.length := Pro.letAt_in' (by omega)
     omega
 have HP : Hid (Pro.classP L len n = Pro.classO L len (L.length + 1 - n) (Pro.behind L (n + 1) { data := #[94] })) := by
   unfold Pro.classP
   rcases hbe with ⟨e, h1⟩ | ⟨e, h1⟩
   · rw [e, if_neg h1]; rfl
   · rw [e, if_pos h1]; rfl
 have HT : Hid (Pro.classT L len n = Pro.tCls (Pro.matchB L (n + 1) { data := #[94] }) (Pro.classX L len (L.length + 1 - n) (Pro.behind L (n + 1) { data := #[94] }) [] []).1 (Pro.classX L len (L.length + 1 - n) (Pro.behind L (n + 1) { data := #[94] }) [] []).2) := by
   unfold Pro.classT
   rcases hbe with ⟨e, h1⟩ | ⟨e, h1⟩
   · rw [e, if_neg h1, Pro.matchB_one L (n + 1) 94 94 rfl]; simp [h1, Hid]
   · rw [e, if_pos h1, Pro.matchB_one L (n + 1) 94 94 rfl]; simp [h1, Hid]
 clear hbe
 go_enter Tryz.func216, Tryz.ntmps216
 go_wp2_with (go_at_call 93; refine (taken_t (n := n + 1) _ (by exact (unhide T).setN _ _ (by omega)) hL (by omega) (by decide)).mono ?_; rintro e wq ⟨rfl, tq⟩; have T := hide tq; have c1 := tq.c1; have f1 := tq.f1)
 generalize hN0 : Pro.behind L (n + 1) { data := #[94] } = N0 at *
 generalize Pro.matchB L (n + 1) { data := #[94] } = neg at *
 have T1 := hide (unhide T)
 clear c1 f1
 have hcb : w.heap.size ≤ wq.heap.size := (unhide T1).on.size
 have hC0 : ClassAt (wq.alloc (.cells #[.bool neg, .slice none 0 0, .slice none 0 0] 211)) wq.heap.size neg [] [] (.slice none 0 0) (.slice none 0 0) :=
   ⟨new_cell wq _ rfl _ _ 0 _ rfl, new_cell wq _ rfl _ _ 1 _ rfl, new_cell wq _ rfl _ _ 2 _ rfl, World.ownsRow_nil _ _ _ _, World.ownsRow_nil _ _ _ _, new_frozen wq _ rfl _ _ 1, new_frozen wq _ rfl _ _ 2⟩
 have T2 : Trk wq.heap.size (wq.alloc (.cells #[.bool neg, .slice none 0 0, .slice none 0 0] 211)) b L N0 len dp a (wq.alloc (.cells #[.bool neg, .slice none 0 0, .slice none 0 0] 211)) :=
   have t := (unhide T1).calm ((Only.refl _ _).alloc _)
   ⟨t.rd, t.se, Only.refl _ _, t.hb, (unhide T1).rd.lt, by simp⟩
 generalize hW : wq.alloc (.cells #[.bool neg, .slice none 0 0, .slice none 0 0] 211) = W at *
 have hOW : Only (Mine b) w W := by rw [← hW]; exact (Own.to (unhide T1).on).alloc _
 have HOW := hide hOW
 have T2 := hide T2
 have HC0 := hide hC0
 clear hC0 hW hOW
 generalize hcbb : wq.heap.size = cb at *
 clear hcbb
 go_loopw [5] (fun _ wr => ∃ (m f : Nat) (R : List (Int × Int)) (S : List Int) (v1 v2 : Value), m ≤ L.length ∧ R.length ≤ m ∧ S.length ≤ m ∧ Hid (L.length < m + f) ∧ Hid (Trk cb W b L m len dp a wr) ∧ Hid (ClassAt wr cb neg R S v1 v2) ∧ Hid (Pro.classP L len n = Pro.classO L len f m) ∧ Hid (Pro.classT L len n = Pro.tCls neg (Pro.classX L len f m R S).1 (Pro.classX L len f m R S).2)) (fun _ wr => L.length - rdN wr b)
 case atStart => exact ⟨N0, L.length + 1 - n, [], [], _, _, hN.2, by simp, by simp, (by show _ < _; omega), T2, HC0, HP, HT⟩
 case round =>
   obtain ⟨m, f, R, S, v1, v2, hm, hR, hS, hf, T, HC, HF, HT⟩ := hrel
   obtain ⟨f, rfl⟩ : ∃ f', f = f' + 1 := ⟨f - 1, by have := unhide hf; omega⟩
   have hrd := (unhide T).rdN
   by_cases h93 : Pro.letAt L m = 93
   · have m1 : Pro.matchB L m { data := #[93] } = true := by rw [Pro.matchB_one L m 93 93 rfl]; simp [h93]
     have HO : Hid (Pro.classP L len n = Pro.good 1 (m + 1)) := by rw [unhide HF]; simp only [Pro.classO]; rw [if_pos h93]; rfl
     have HT1 : Hid (Pro.classT L len n = Pro.tCls neg R S) := by rw [unhide HT]; simp only [Pro.classX]; rw [if_pos h93]; rfl
     clear h93
     have T0 := T
     have T := hide (Trk.start (unhide T0).rd (unhide T0).se hb)
     have hbc := (unhide T0).lt
     go_wp2_with ((go_at_call 93; refine (take_t (n := m) _ (by exact unhide T) hL (by omega) (by decide) (by assumption)).mono ?_; rintro e wq ⟨rfl, tq⟩; have tq : Trk _ _ b L ((m) + 1) len dp a wq := tq; have T := hide tq; have c1 := tq.c1; have f1 := tq.f1); (have hC1 := (unhide HC).step hbc (unhide T)); (have k0 := hC1.k0); (have k1 := hC1.k1); (have k2 := hC1.k2); (have HC1 := hide hC1); (clear hC1))
     go_ret2
     refine ⟨_, told_good (unhide HO) rfl (Own.back (unhide HOW) ((unhide T0).join (unhide T)).on hcb) (unhide T).rd, fun _ => ?_⟩
     rw [unhide HT1]
     have hCC := unhide HC1
     exact .inr (.inr (.inr (.inr ⟨neg, R, S, v1, v2, rfl, rfl, (cells_of hCC.o1 (fun e => by rw [List.eq_nil_of_length_eq_zero e]; rfl)).mono (fun g _ hg => by omega), (cells_of hCC.o2 (fun e => by rw [List.eq_nil_of_length_eq_zero e]; rfl)).mono (fun g _ hg => by omega)⟩)))
   · have m1 : Pro.matchB L m { data := #[93] } = false := by rw [Pro.matchB_one L m 93 93 rfl]; simp [h93]
     by_cases hend : L.length ≤ m
     · have hme : m = L.length := by omega
       have he : ((m : Int) == (L.length : Int)) = true := by simp; omega
       have HO : Hid (Pro.classP L len n = Pro.bad 3 (Pro.placeAt L len m) m) := by rw [unhide HF]; simp only [Pro.classO]; rw [if_neg h93, if_pos hend, Pro.placeAt_out hend]; rfl
       clear h93
       go_wp2_with (first | (go_at_call 93; refine (takeno_t (n := m) _ (by exact unhide T) hL (by omega) (by decide) (by assumption)).mono ?_; rintro e wq ⟨rfl, qq, rfl⟩) | (go_at_call 60; refine (atEnd_t (n := m) (by exact (unhide T).drewN _)).mono ?_; rintro e wq ⟨rfl, qq, rfl⟩) | (go_at_call 61; refine (wrong_t (n := m) (by exact (unhide T).drewN _) hL (by omega)).mono ?_; rintro e wq ⟨v, rfl, hv, tq⟩; have T := hide tq; have c1 := tq.c1; have f1 := tq.f1))
       go_ret2
       exact ⟨.nilIface, told_bad (unhide HO) (by decide) (Own.back (unhide HOW) (unhide T).on hcb) (unhide T).rd (hv.base (unhide HOW).size), fun e => by rw [unhide HO] at e; exact absurd e (show (3 : Nat) ≠ 0 by decide)⟩
     · have he : ((m : Int) == (L.length : Int)) = false := by simp; omega
       have hml : m < L.length := by omega
       have hin := Pro.addO_in (L := L) (len := len) m hml
       have hmi := Pro.memberO_in (L := L) (len := len) m hml
       by_cases hk : (Pro.addO L len m).k = 0
       · have HO : Hid (Pro.classP L len n = Pro.classO L len f (Pro.addO L len m).n) := by rw [unhide HF]; simp only [Pro.classO]; rw [if_neg h93, if_neg hend, if_neg (by simp [hk])]; rfl
         have HT1 : Hid (Pro.classT L len n = Pro.tCls neg (Pro.classX L len f (Pro.addO L len m).n (Pro.addR L len m R) (Pro.addS L len m S)).1 (Pro.classX L len f (Pro.addO L len m).n (Pro.addR L len m R) (Pro.addS L len m S)).2) := by rw [unhide HT]; simp only [Pro.classX]; rw [if_neg h93]; rfl
         clear h93
         go_wp2_with (first | (go_at_call 93; refine (takeno_t (n := m) _ (by exact unhide T) hL (by omega) (by decide) (by assumption)).mono ?_; rintro e wq ⟨rfl, qq, rfl⟩) | (go_at_call 60; refine (atEnd_t (n := m) (by exact (unhide T).drewN _)).mono ?_; rintro e wq ⟨rfl, qq, rfl⟩) | (go_at_call 255; refine (addMember_any b L m len dp a cb W _ neg R S v1 v2 (by exact (unhide T).drewN _) (by first | exact unhide HC | exact (unhide HC).keep ((Only.refl (fun _ => False) _).drewN _) (fun _ _ f => f) | exact (unhide HC).keep (((Only.refl (fun _ => False) _).drewN _).drewN _) (fun _ _ f => f)) hL hml (by omega) hF (by omega) (by omega)).mono ?_; rintro e w9 ⟨tq, hA⟩; obtain ⟨rfl, u1, u2, hC9⟩ := adds_yes hA hk; have T9 := hide tq; have HC9 := hide hC9; clear hA hC9))
         have hR' := Pro.addR_len (L := L) (len := len) m R
         have hS' := Pro.addS_len (L := L) (len := len) m S
         exact ⟨⟨(Pro.addO L len m).n, f, _, _, u1, u2, hin.2, by omega, by omega, (by have := unhide hf; show _ < _; omega), T9, HC9, HO, HT1⟩, by rw [(unhide T9).rdN, hrd]; omega⟩
       · have HO : Hid (Pro.classP L len n = Pro.addO L len m) := by rw [unhide HF]; simp only [Pro.classO]; rw [if_neg h93, if_neg hend, if_pos hk]; rfl
         clear h93
         go_wp2_with (first | (go_at_call 93; refine (takeno_t (n := m) _ (by exact unhide T) hL (by omega) (by decide) (by assumption)).mono ?_; rintro e wq ⟨rfl, qq, rfl⟩) | (go_at_call 60; refine (atEnd_t (n := m) (by exact (unhide T).drewN _)).mono ?_; rintro e wq ⟨rfl, qq, rfl⟩) | (go_at_call 255; refine (addMember_any b L m len dp a cb W _ neg R S v1 v2 (by exact (unhide T).drewN _) (by first | exact unhide HC | exact (unhide HC).keep ((Only.refl (fun _ => False) _).drewN _) (fun _ _ f => f) | exact (unhide HC).keep (((Only.refl (fun _ => False) _).drewN _).drewN _) (fun _ _ f => f)) hL hml (by omega) hF (by omega) (by omega)).mono ?_; rintro e w9 ⟨tq, hA⟩; obtain ⟨xv, rfl, hv⟩ := adds_no hA hk; obtain ⟨gv, hgv⟩ := hv.form; subst hgv; have T9 := hide tq; clear hA))
         go_ret2
         rw [unhide HO]
         exact ⟨.nilIface, Tells.no hk (Own.back (unhide HOW) (unhide T9).on hcb) (unhide T9).rd (hv.base (unhide HOW).size), fun e => absurd e hk⟩
theorem assertionT_any (b : Nat) (L : List (Int × Int)) (n : Nat) (len dp : Int) (a : Nat → Addr) (w : World) (h : RdAt w b L n len dp) (hS : Sents w a) (hb : 10 ≤ b) (hL : L.length ≤ 400) (hn : n ≤ L.length) :
   Calls Tryz.prog 168 #[.pointer (some ⟨b, 0, none⟩)] w fun x w' => Only (Mine b) w w' ∧ RdAt w' b L (n + Pro.asN L n) len dp ∧ ((Pro.asN L n ≠ 0 ∧ x = .returned (.tuple #[.int .i64 (Pro.asV L n), .bool true])) ∨ (Pro.asN L n = 0 ∧ x = .returned (.tuple #[.int .i64 0, .bool false]))) := by
 have T := hide (Trk.start h hS hb)
 clear h hS
 by_cases h1 : Pro.letAt L n = 94
 · have HA : Hid (Pro.asN L n = 1) := by unfold Pro.asN; rw [if_pos (.inl h1)]; rfl
   have HV : Hid (Pro.asV L n = 0) := by unfold Pro.asV; rw [if_pos h1]; rfl
   have m1 : Pro.matchB L n { data := #[94] } = true := by rw [Pro.matchB_one L n 94 94 rfl]; simp [h1]
   go_enter Tryz.func168, Tryz.ntmps168
   go_wp2_with (first | (go_at_call 93; refine (take_t (n := n) _ (by exact unhide T) hL (by omega) (by decide) (by assumption)).mono ?_; rintro e wq ⟨rfl, tq⟩; have tq : Trk _ _ b L ((n) + 1) len dp a wq := tq; have T := hide tq; have c1 := tq.c1; have f1 := tq.f1))
   go_ret2
   rw [unhide HA, unhide HV]
   exact ⟨Own.to (unhide T).on, (unhide T).rd, .inl ⟨by decide, rfl⟩⟩
 · have m1 : Pro.matchB L n { data := #[94] } = false := by rw [Pro.matchB_one L n 94 94 rfl]; simp [h1]
   by_cases h2 : Pro.letAt L n = 36
   · have HA : Hid (Pro.asN L n = 1) := by unfold Pro.asN; rw [if_pos (.inr h2)]; rfl
     have HV : Hid (Pro.asV L n = 1) := by unfold Pro.asV; rw [if_neg h1, if_pos h2]; rfl
     have m2 : Pro.matchB L n { data := #[36] } = true := by rw [Pro.matchB_one L n 36 36 rfl]; simp [h2]
     go_enter Tryz.func168, Tryz.ntmps168
     go_wp2_with (first | (go_at_call 93; refine (takeno_t (n := n) _ (by first | exact unhide T | exact (unhide T).drewN _) hL (by omega) (by decide) (by assumption)).mono ?_; rintro e wq ⟨rfl, qq, rfl⟩) | (go_at_call 93; refine (take_t (n := n) _ (by exact (unhide T).drewN _) hL (by omega) (by decide) (by assumption)).mono ?_; rintro e wq ⟨rfl, tq⟩; have tq : Trk _ _ b L ((n) + 1) len dp a wq := tq; have T := hide tq; have c1 := tq.c1; have f1 := tq.f1))
     go_ret2
     rw [unhide HA, unhide HV]
     exact ⟨Own.to (unhide T).on, (unhide T).rd, .inl ⟨by decide, rfl⟩⟩
   · have m2 : Pro.matchB L n { data := #[36] } = false := by rw [Pro.matchB_one L n 36 36 rfl]; simp [h2]
     by_cases h3 : Pro.letAt L n = 92 ∧ Pro.letAt L (n + 1) = 98
     · have HA : Hid (Pro.asN L n = 2) := by unfold Pro.asN; rw [if_neg (by omega), if_pos ⟨h3.1, .inl h3.2⟩]; rfl
       have HV : Hid (Pro.asV L n = 2) := by unfold Pro.asV; rw [if_neg h1, if_neg h2, if_pos h3.2]; rfl
       have m3 : Pro.matchB L n { data := #[92, 98] } = true := by rw [Pro.matchB_two L n 92 98 92 98 rfl rfl]; simp [h3]
       clear h3
       go_enter Tryz.func168, Tryz.ntmps168
       go_wp2_with (first | (go_at_call 93; refine (takeno_t (n := n) _ (by first | exact unhide T | exact (unhide T).drewN _) hL (by omega) (by decide) (by assumption)).mono ?_; rintro e wq ⟨rfl, qq, rfl⟩) | (go_at_call 93; refine (take_t (n := n) _ (by exact (unhide T).drewN _) hL (by omega) (by decide) (by assumption)).mono ?_; rintro e wq ⟨rfl, tq⟩; have tq : Trk _ _ b L ((n) + 2) len dp a wq := tq; have T := hide tq; have c1 := tq.c1; have f1 := tq.f1))
       go_ret2
       rw [unhide HA, unhide HV]
       exact ⟨Own.to (unhide T).on, (unhide T).rd, .inl ⟨by decide, rfl⟩⟩
     · have m3 : Pro.matchB L n { data := #[92, 98] } = false := by rw [Pro.matchB_two L n 92 98 92 98 rfl rfl]; simp; omega
       by_cases h4 : Pro.letAt L n = 92 ∧ Pro.letAt L (n + 1) = 66
       · have HA : Hid (Pro.asN L n = 2) := by unfold Pro.asN; rw [if_neg (by omega), if_pos ⟨h4.1, .inr h4.2⟩]; rfl
         have HV : Hid (Pro.asV L n = 3) := by unfold Pro.asV; rw [if_neg h1, if_neg h2, if_neg (by omega)]; rfl
         have m4 : Pro.matchB L n { data := #[92, 66] } = true := by rw [Pro.matchB_two L n 92 66 92 66 rfl rfl]; simp [h4]
         clear h3 h4
         go_enter Tryz.func168, Tryz.ntmps168
         go_wp2_with (first | (go_at_call 93; refine (takeno_t (n := n) _ (by first | exact unhide T | exact (unhide T).drewN _) hL (by omega) (by decide) (by assumption)).mono ?_; rintro e wq ⟨rfl, qq, rfl⟩) | (go_at_call 93; refine (take_t (n := n) _ (by exact (unhide T).drewN _) hL (by omega) (by decide) (by assumption)).mono ?_; rintro e wq ⟨rfl, tq⟩; have tq : Trk _ _ b L ((n) + 2) len dp a wq := tq; have T := hide tq; have c1 := tq.c1; have f1 := tq.f1))
         go_ret2
         rw [unhide HA, unhide HV]
         exact ⟨Own.to (unhide T).on, (unhide T).rd, .inl ⟨by decide, rfl⟩⟩
       · have m4 : Pro.matchB L n { data := #[92, 66] } = false := by rw [Pro.matchB_two L n 92 66 92 66 rfl rfl]; simp; omega
         have HA : Hid (Pro.asN L n = 0) := by unfold Pro.asN; rw [if_neg (by omega), if_neg (by omega)]; rfl
         clear h3 h4
         go_enter Tryz.func168, Tryz.ntmps168
         go_wp2_with (first | (go_at_call 93; refine (takeno_t (n := n) _ (by first | exact unhide T | exact (unhide T).drewN _) hL (by omega) (by decide) (by assumption)).mono ?_; rintro e wq ⟨rfl, qq, rfl⟩))
         go_ret2
         rw [unhide HA]
         exact ⟨Own.to ((unhide T).drewN _).on, ((unhide T).drewN _).rd, .inr ⟨rfl, rfl⟩⟩
def GroupOKT (b : Nat) (L : List (Int × Int)) (len dp : Int) (a : Nat → Addr) (D : Nat → Pro.Out) (DT : Nat → Tree) : Prop := ∀ (n : Nat) (w : World), RdAt w b L n len dp → Sents w a → n < L.length → Calls Tryz.prog 215 #[.pointer (some ⟨b, 0, none⟩)] w (GivesT b L len dp a w (D n) (DT n))
theorem one_leaf (m : Bool) (c : Int) : ∃ T y, oneV m c = .iface T y ∧ ∀ w A, LeafAt w A (.iface T y) (Pro.oneT m c) := by
 cases m
 · exact ⟨_, _, rfl, fun w A => .inr (.inr (.inl ⟨_, rfl, rfl⟩))⟩
 · exact ⟨_, _, rfl, fun w A => .inr (.inr (.inr (.inl ⟨_, rfl, rfl⟩)))⟩
theorem patomT_any (b : Nat) (L : List (Int × Int)) (n : Nat) (len dp : Int) (a : Nat → Addr) (D : Nat → Pro.Out) (DT : Nat → Tree) (w : World) (h : RdAt w b L n len dp) (hS : Sents w a) (hb : 10 ≤ b) (hL : L.length ≤ 400) (hn : n < L.length) (hF : Pro.Fit L) (hG : GroupOKT b L len dp a D DT) :
   Calls Tryz.prog 169 #[.pointer (some ⟨b, 0, none⟩)] w (GivesT b L len dp a w (Pro.atomO L len D n) (Pro.atomT L len DT n)) := by
 have T := hide (Trk.start h hS hb)
 have HR := hide h
 have HS := hide hS
 have c1 := h.c1
 have f1 := h.f1
 have HG := hide hG
 clear h hS hG
 cases hw : Pro.wrongL (Pro.letAt L n)
 · have hq : (Pro.letAt L n == 42) = false ∧ (Pro.letAt L n == 43) = false ∧ (Pro.letAt L n == 63) = false ∧ (Pro.letAt L n == 123) = false ∧ (Pro.letAt L n == 125) = false ∧ (Pro.letAt L n == 93) = false := by
     unfold Pro.wrongL at hw; simpa [and_assoc] using hw
   obtain ⟨q1, q2, q3, q4, q5, q6⟩ := hq
   by_cases h40 : Pro.letAt L n = 40
   · have HO : Hid (Pro.atomO L len D n = D n) := by unfold Pro.atomO; rw [if_neg (by simp [hw]), if_pos h40]; rfl
     have HT : Hid (Pro.atomT L len DT n = DT n) := by unfold Pro.atomT; rw [if_pos h40]; rfl
     have h40' : (Pro.letAt L n == 40) = true := by simp [h40]
     clear h40 hw
     go_enter Tryz.func169, Tryz.ntmps169
     go_wp2_with (first | (go_at_call 131; refine (peek_t (n := n) (by exact unhide T) hL (by omega)).mono ?_; rintro e wq ⟨rfl, hwq⟩; have hwr := hwq.symm; subst hwr; clear hwq) | (go_at_call 215; refine (unhide HG n _ (unhide HR) (unhide HS) hn).mono ?_; intro e w1 hg; obtain ⟨p1, p2, rfl⟩ := hg.pair; have Hg := hide hg; clear hg))
     go_ret2
     rw [unhide HO, unhide HT]
     exact unhide Hg
   · have h40' : (Pro.letAt L n == 40) = false := by simp [h40]
     by_cases h91 : Pro.letAt L n = 91
     · have HO : Hid (Pro.atomO L len D n = Pro.one (Pro.classP L len n)) := by unfold Pro.atomO; rw [if_neg (by simp [hw]), if_neg h40, if_pos h91]; rfl
       have HT : Hid (Pro.atomT L len DT n = Pro.classT L len n) := by unfold Pro.atomT; rw [if_neg h40, if_pos h91]; rfl
       have h91' : (Pro.letAt L n == 91) = true := by simp [h91]
       clear h91 hw h40
       go_enter Tryz.func169, Tryz.ntmps169
       go_wp2_with (first | (go_at_call 131; refine (peek_t (n := n) (by exact unhide T) hL (by omega)).mono ?_; rintro e wq ⟨rfl, hwq⟩; have hwr := hwq.symm; subst hwr; clear hwq) | (go_at_call 216; refine (pclassT_any b L n len dp a _ (unhide HR) (unhide HS) hb hL hn hF).mono ?_; rintro e w1 ⟨cv, hc, hlf⟩; have hg := hc.givesT hlf; obtain ⟨p1, p2, rfl⟩ := hg.pair; have Hg := hide hg; clear hg hc hlf))
       go_ret2
       rw [unhide HO, unhide HT]
       exact unhide Hg
     · have h91' : (Pro.letAt L n == 91) = false := by simp [h91]
       by_cases h92 : Pro.letAt L n = 92
       · have HO : Hid (Pro.atomO L len D n = Pro.one (Pro.escO L len n)) := by unfold Pro.atomO; rw [if_neg (by simp [hw]), if_neg h40, if_neg h91, if_pos h92]; rfl
         have HT : Hid (Pro.atomT L len DT n = Pro.oneT (Pro.setB (Pro.letAt L (n + 1))) (Pro.escO L len n).v) := by unfold Pro.atomT; rw [if_neg h40, if_neg h91, if_pos h92]; rfl
         have h92' : (Pro.letAt L n == 92) = true := by simp [h92]
         clear h91 hw h40 h92
         obtain ⟨TT, yy, hy, hlf⟩ := one_leaf (Pro.setB (Pro.letAt L (n + 1))) (Pro.escO L len n).v
         have Hy := hide hy
         have Hlf := hide hlf
         clear hy hlf
         go_enter Tryz.func169, Tryz.ntmps169
         go_wp2_with (first | (go_at_call 131; refine (peek_t (n := n) (by exact unhide T) hL (by omega)).mono ?_; rintro e wq ⟨rfl, hwq⟩; have hwr := hwq.symm; subst hwr; clear hwq) | (go_at_call 217; refine (pescape_any b L n len dp a _ (unhide HR) (unhide HS) hb hL hn hF).mono ?_; intro e w1 hc; rw [unhide Hy] at hc; have hg := hc.givesT (fun _ => unhide Hlf _ _); obtain ⟨p1, p2, rfl⟩ := hg.pair; have Hg := hide hg; clear hg hc))
         go_ret2
         rw [unhide HO, unhide HT]
         exact unhide Hg
       · have h92' : (Pro.letAt L n == 92) = false := by simp [h92]
         have HO : Hid (Pro.atomO L len D n = Pro.good 1 (n + 1)) := by unfold Pro.atomO; rw [if_neg (by simp [hw]), if_neg h40, if_neg h91, if_neg h92]; rfl
         have HT1 : Hid (Pro.letAt L n = 46 → Pro.atomT L len DT n = Pro.tAny) := fun e => by unfold Pro.atomT; rw [if_neg h40, if_neg h91, if_neg h92, if_pos e]
         have HT2 : Hid (Pro.letAt L n ≠ 46 → Pro.atomT L len DT n = Pro.tChar (Pro.letAt L n)) := fun e => by unfold Pro.atomT; rw [if_neg h40, if_neg h91, if_neg h92, if_neg e]
         clear h91 hw h40 h92
         have hdot : (Pro.letAt L n == 46) = true ∨ (Pro.letAt L n == 46) = false := by cases (Pro.letAt L n == 46) <;> simp
         rcases hdot with hd | hd
         · go_enter Tryz.func169, Tryz.ntmps169
           go_wp2_with (first | (go_at_call 131; refine (peek_t (n := n) (by exact unhide T) hL (by omega)).mono ?_; rintro e wq ⟨rfl, hwq⟩; have hwr := hwq.symm; subst hwr; clear hwq))
           go_ret2
           rw [unhide HT1 (by simpa using hd)]
           exact GivesT.good (unhide HO) ((Only.refl _ _).mine _ _) ((unhide HR).setN _ _ (by omega)) (PartAt.leaf (.inr (.inl ⟨rfl, rfl⟩)))
         · go_enter Tryz.func169, Tryz.ntmps169
           go_wp2_with (first | (go_at_call 131; refine (peek_t (n := n) (by exact unhide T) hL (by omega)).mono ?_; rintro e wq ⟨rfl, hwq⟩; have hwr := hwq.symm; subst hwr; clear hwq))
           go_ret2
           rw [unhide HT2 (by simpa using hd)]
           exact GivesT.good (unhide HO) ((Only.refl _ _).mine _ _) ((unhide HR).setN _ _ (by omega)) (PartAt.leaf (.inr (.inr (.inl ⟨_, rfl, rfl⟩))))
 · have HO : Hid (Pro.atomO L len D n = Pro.bad 3 (Pro.placeAt L len n) n) := by unfold Pro.atomO; rw [if_pos hw]; rfl
   have hq : (Pro.letAt L n == 42) = true ∨ (Pro.letAt L n == 42) = false ∧ ((Pro.letAt L n == 43) = true ∨ (Pro.letAt L n == 43) = false ∧ ((Pro.letAt L n == 63) = true ∨ (Pro.letAt L n == 63) = false ∧ ((Pro.letAt L n == 123) = true ∨ (Pro.letAt L n == 123) = false ∧ ((Pro.letAt L n == 125) = true ∨ (Pro.letAt L n == 125) = false ∧ (Pro.letAt L n == 93) = true)))) := by
     unfold Pro.wrongL at hw
     cases hq1 : (Pro.letAt L n == 42) <;> cases hq2 : (Pro.letAt L n == 43) <;> cases hq3 : (Pro.letAt L n == 63) <;> cases hq4 : (Pro.letAt L n == 123) <;> cases hq5 : (Pro.letAt L n == 125) <;> cases hq6 : (Pro.letAt L n == 93) <;> simp_all
   clear hw
   rcases hq with q1 | ⟨q1, q2 | ⟨q2, q3 | ⟨q3, q4 | ⟨q4, q5 | ⟨q5, q6⟩⟩⟩⟩⟩
   all_goals
     go_enter Tryz.func169, Tryz.ntmps169
     go_wp2_with (first | (go_at_call 131; refine (peek_t (n := n) (by exact unhide T) hL (by omega)).mono ?_; rintro e wq ⟨rfl, hwq⟩; have hwr := hwq.symm; subst hwr; clear hwq) | (go_at_call 61; refine (wrong_t (n := n) (by exact unhide T) hL (by omega)).mono ?_; rintro e wq ⟨v, rfl, hv, tq⟩; have T := hide tq; have c1 := tq.c1; have f1 := tq.f1))
     go_ret2
     exact GivesT.bad (unhide HO) (by decide) (Own.to (unhide T).on) (unhide T).rd hv
theorem Quants.givesT {b : Nat} {L : List (Int × Int)} {len dp : Int} {a : Nat → Addr} {w w1 w' : World} {T : TypeId} {y : Value} {z t : Tree} {F : Nat} {n : Nat} {x : Ending} {o : Pro.Out} (hlt : b < w.heap.size) (hO : Only (Mine b) w w1) (hs : PartAt F w1 (fun g => w.heap.size ≤ g) (.iface T y) z) (h : Quants b L len dp a w1 (.iface T y) (Pro.quantO L len n) x w')
   (h0 : (Pro.quantO L len n).1 = false → o.k = 0 ∧ t = z ∧ o.n = (Pro.quantO L len n).2.1.n) (h1 : (Pro.quantO L len n).1 = true → (Pro.quantO L len n).2.1.k ≠ 0 → o = (Pro.quantO L len n).2.1)
   (h2 : (Pro.quantO L len n).1 = true → (Pro.quantO L len n).2.1.k = 0 → (∃ v, o = Pro.good v (Pro.lazyN L (Pro.quantO L len n).2.1.n)) ∧ t = Pro.tRep z (Pro.quantO L len n).2.1.v (Pro.quantO L len n).2.2) : GivesT b L len dp a w o t x w' := by
 obtain ⟨hO', h⟩ := h
 have hs' := PartAt.keep hO' (A := fun g => w.heap.size ≤ g) (fun g hg e => by unfold Mine at e; subst e; exact absurd hlt (Nat.not_lt.2 hg)) F _ _ hs
 rcases h with ⟨hq, hx, hR⟩ | ⟨hq, hk, hx, hR⟩ | ⟨hq, hk, hR, v, hx, hv⟩
 · obtain ⟨e1, e2, e3⟩ := h0 hq
   exact ⟨hO.trans hO', by rw [e3]; exact hR, .inl ⟨e1, T, y, F, hx, by rw [e2]; exact hs'⟩⟩
 · subst hx
   obtain ⟨⟨vv, ho⟩, ht⟩ := h2 hq hk
   rw [ht]
   refine GivesT.good (F := F + 1) ho (hO.trans hO') hR ?_
   have hv := Pro.quantO_v (L := L) (len := len) n hq hk
   exact .inr (.inr (.inr ⟨_, _, _, z, rfl, rfl, hs', hv.1, hv.2.1, hv.2.2.1, hv.2.2.2.1, hv.2.2.2.2⟩))
 · rw [h1 hq hk]
   exact ⟨hO.trans hO', hR, .inr ⟨hk, v, hx, hv.base hO.size⟩⟩
theorem Quants.pairT {b : Nat} {L : List (Int × Int)} {len dp : Int} {a : Nat → Addr} {w w' : World} {p : Value} {o : Bool × Pro.Out × Int} {x : Ending} (h : Quants b L len dp a w p o x w') : ∃ p q, x = .returned (.tuple #[p, q]) := by
 obtain ⟨_, ⟨_, h, _⟩ | ⟨_, _, h, _⟩ | ⟨_, _, _, v, h, _⟩⟩ := h
 · exact ⟨_, _, h⟩
 · exact ⟨_, _, h⟩
 · exact ⟨_, _, h⟩
theorem as_noT {k : Nat} {x : Ending} {c : Int} (h : (k ≠ 0 ∧ x = .returned (.tuple #[.int .i64 c, .bool true])) ∨ (k = 0 ∧ x = .returned (.tuple #[.int .i64 0, .bool false]))) (hk : k = 0) : True ∧ x = .returned (.tuple #[.int .i64 0, .bool false]) := by
 rcases h with ⟨h, _⟩ | ⟨_, h⟩
 · exact absurd hk h
 · exact ⟨trivial, h⟩
theorem as_yesT {k : Nat} {x : Ending} {c : Int} (h : (k ≠ 0 ∧ x = .returned (.tuple #[.int .i64 c, .bool true])) ∨ (k = 0 ∧ x = .returned (.tuple #[.int .i64 0, .bool false]))) (hk : k ≠ 0) : True ∧ x = .returned (.tuple #[.int .i64 c, .bool true]) := by
 rcases h with ⟨_, h⟩ | ⟨h, _⟩
 · exact ⟨trivial, h⟩
 · exact absurd h hk
theorem termT_any (b : Nat) (L : List (Int × Int)) (n : Nat) (len dp : Int) (a : Nat → Addr) (D : Nat → Pro.Out) (DT : Nat → Tree) (w : World) (h : RdAt w b L n len dp) (hS : Sents w a) (hb : 10 ≤ b) (hL : L.length ≤ 400) (hn : n < L.length) (hF : Pro.Fit L) (hG : GroupOKT b L len dp a D DT) (hD : Pro.DOK L D) :
   Calls Tryz.prog 132 #[.pointer (some ⟨b, 0, none⟩)] w (GivesT b L len dp a w (Pro.termO L len D n) (Pro.termT L len D DT n)) := by
 have hlt := h.lt
 have HR := hide h
 have HS := hide hS
 have HG := hide hG
 have HD := hide hD
 clear h hS hG hD
 by_cases has : Pro.asN L n = 0
 · have hin := Pro.atomO_in (len := len) (unhide HD) n hn
   by_cases hk : (Pro.atomO L len D n).k = 0
   · go_enter Tryz.func132, Tryz.ntmps132
     go_wp2_with (first
       | (go_at_call 168; refine (assertionT_any b L n len dp a _ (unhide HR) (unhide HS) hb hL (by omega)).mono ?_; rintro e w1 ⟨hO1, hR1, hT1⟩; rw [has] at hR1; obtain ⟨_, rfl⟩ := as_noT hT1 has; clear hT1; have HR1 := hide hR1; have HS1 := hide ((unhide HS).mine hO1 hb); have HO1 := hide hO1; clear hR1 hO1)
       | (go_at_call 169; refine (patomT_any b L n len dp a D DT _ (unhide HR1) (unhide HS1) hb hL hn hF (unhide HG)).mono ?_; intro e w2 hg; obtain ⟨T2, y2, F2, rfl, hs2, hO2, hR2⟩ := givesT_yes (hg.after (unhide HO1)) hk; have Hs2 := hide hs2; have HO2 := hide hO2; have HR2 := hide hR2; have HS2 := hide ((unhide HS).mine hO2 hb); clear hg hs2 hO2 hR2)
       | (go_at_call 170; refine (quantified_any b L (Pro.atomO L len D n).n len dp a _ T2 y2 (unhide HR2) (unhide HS2) hb hL hin.2.1 hF).mono ?_; intro e w3 hq; obtain ⟨p1, p2, rfl⟩ := hq.pairT; have Hq := hide hq; clear hq))
     go_ret2
     refine (unhide Hq).givesT hlt (unhide HO2) (unhide Hs2) ?_ ?_ ?_
     · intro hq0
       have hqn := (Pro.quantO_in (L := L) (len := len) (Pro.atomO L len D n).n hin.2.1).2.2 hq0
       unfold Pro.termO
       rw [if_neg (by simp [has]), if_neg (by simp [hk]), if_pos hq0, hqn]
       refine ⟨hk, ?_, rfl⟩
       unfold Pro.termT
       rw [if_neg (by simp [has]), if_pos hq0]
     · intro hq1 hk2
       unfold Pro.termO
       rw [if_neg (by simp [has]), if_neg (by simp [hk]), if_neg (by simp [hq1]), if_pos hk2]
     · intro hq1 hk2
       unfold Pro.termO
       rw [if_neg (by simp [has]), if_neg (by simp [hk]), if_neg (by simp [hq1]), if_neg (by simp [hk2])]
       refine ⟨⟨_, rfl⟩, ?_⟩
       unfold Pro.termT
       rw [if_neg (by simp [has]), if_neg (by simp [hq1])]
   · have HO : Hid (Pro.termO L len D n = Pro.atomO L len D n) := by unfold Pro.termO; rw [if_neg (by simp [has]), if_pos hk]; rfl
     go_enter Tryz.func132, Tryz.ntmps132
     go_wp2_with (first
       | (go_at_call 168; refine (assertionT_any b L n len dp a _ (unhide HR) (unhide HS) hb hL (by omega)).mono ?_; rintro e w1 ⟨hO1, hR1, hT1⟩; rw [has] at hR1; obtain ⟨_, rfl⟩ := as_noT hT1 has; clear hT1; have HR1 := hide hR1; have HS1 := hide ((unhide HS).mine hO1 hb); have HO1 := hide hO1; clear hR1 hO1)
       | (go_at_call 169; refine (patomT_any b L n len dp a D DT _ (unhide HR1) (unhide HS1) hb hL hn hF (unhide HG)).mono ?_; intro e w2 hg; obtain ⟨g2, rfl, hv2, hO2, hR2⟩ := givesT_no (hg.after (unhide HO1)) hk; have Hv2 := hide hv2; have HO2 := hide hO2; have HR2 := hide hR2; clear hg hv2 hO2 hR2))
     go_ret2
     rw [unhide HO]
     exact ⟨unhide HO2, unhide HR2, .inr ⟨hk, _, rfl, unhide Hv2⟩⟩
 · have HO : Hid (Pro.termO L len D n = Pro.good 1 (n + Pro.asN L n)) := by unfold Pro.termO; rw [if_pos has]; rfl
   go_enter Tryz.func132, Tryz.ntmps132
   go_wp2_with (go_at_call 168; refine (assertionT_any b L n len dp a _ (unhide HR) (unhide HS) hb hL (by omega)).mono ?_; rintro e w1 ⟨hO1, hR1, hT1⟩; obtain ⟨_, rfl⟩ := as_yesT hT1 has; clear hT1; have HR1 := hide hR1; have HO1 := hide hO1; clear hR1 hO1)
   go_ret2
   have ht : Pro.termT L len D DT n = Pro.tAsr (Pro.asV L n) := by unfold Pro.termT; rw [if_pos has]
   rw [ht]
   exact GivesT.good (unhide HO) (unhide HO1) (unhide HR1) (PartAt.leaf (.inl ⟨_, rfl, rfl⟩))
def ApartT (base : Nat) (sv : Value) (g : Nat) : Prop := base ≤ g ∧ sv.ownBlock ≠ some g
theorem row_growT {b base : Nat} {wr w3 W w4 : World} {sv sv' x : Value} {T : TypeId} {xs : List Value} {zs : List Tree} {z : Tree} {F G : Nat} (hbase : base ≤ wr.heap.size) (hbl : b < base) (hown : wr.ownsRow base T 1 sv xs.length xs) (hsz : Parts F wr (ApartT base sv) xs zs) (hO : Only (Mine b) wr w3) (hx : PartAt G w3 (fun g => wr.heap.size ≤ g) x z)
   (hW : Only (fun _ => False) w3 W) (hg : W.grownBy w4 sv.ownBlock) (hsep : ∀ k, sv'.ownBlock = some k → sv.ownBlock = some k ∨ W.heap.size ≤ k) : Parts (max F G) w4 (ApartT base sv') (xs ++ [x]) (zs ++ [z]) := by
 have h1 : Parts F w3 (ApartT base sv) xs zs := hsz.keep hO (fun g hg e => by unfold Mine at e; have := hg.1; omega)
 have hx1 : PartAt G w3 (ApartT base sv) x z := PartAt.mono (fun g _ hg => ⟨Nat.le_trans hbase hg, fun e => by have := (ownsRow_block hown g e).2; omega⟩) G x z hx
 have h2 := (h1.append hx1).keep hW (fun _ _ f => f)
 have h3 : Parts (max F G) W (fun g => ApartT base sv g ∧ g < W.heap.size) (xs ++ [x]) (zs ++ [z]) := h2.mono (fun g hl hg => ⟨hg, hl⟩)
 have h4 := h3.keep (Only.ofGrown hg) (fun g hg e => hg.1.2 e)
 exact h4.mono (fun g _ hg => ⟨hg.1.1, fun e => by
   rcases hsep g e with h | h
   · exact hg.1.2 h
   · have := hg.2; omega⟩)
theorem row_ofT {base : Nat} {w : World} {T : TypeId} {sv : Value} {xs : List Value} (h : w.ownsRow base T 1 sv xs.length xs) : RowAt w (fun g => base ≤ g) sv xs := by
 have hl := ownsRow_block h
 have hc := @World.ownsRow.cells w base T 1 sv xs.length xs h
 rcases h.2 with ⟨rfl, h0⟩ | ⟨g, cap, cur, rfl, hb, hg, hn, _⟩
 · exact .inl ⟨rfl, List.eq_nil_of_length_eq_zero h0⟩
 · exact .inr ⟨g, cap, rfl, hb, hn, (hl g rfl).2, fun j x hj => by
     have := hc (g := g) rfl j x hj
     have e : (⟨g, 0, none⟩ : Addr).add j = ⟨g, j, none⟩ := by unfold Addr.add; split <;> simp_all
     rw [e] at this; exact this⟩
theorem Tryz.infoPtT : (Tryz.prog.info? 70).map (fun i => (i.zero, i.size, i.bytes)) = some (some .nilIface, 1, 16) := by kernel_rfl
theorem termsT_any (b : Nat) (L : List (Int × Int)) (n : Nat) (len dp : Int) (a : Nat → Addr) (D : Nat → Pro.Out) (DT : Nat → Tree) (w : World) (h : RdAt w b L n len dp) (hS : Sents w a) (hb : 10 ≤ b) (hL : L.length ≤ 400) (hn : n ≤ L.length) (hF : Pro.Fit L) (hG : GroupOKT b L len dp a D DT) (hD : Pro.DOK L D) :
   Calls Tryz.prog 92 #[.pointer (some ⟨b, 0, none⟩)] w (GivesT b L len dp a w (Pro.termsP L len D n) (Pro.termsQ L len D DT n)) := by
 obtain ⟨i0, hi, hz0, hz1, hz2⟩ := info_parts Tryz.infoPtT
 have hlt := h.lt
 have HS := hide hS
 have HG := hide hG
 have HD := hide hD
 clear hS hG hD
 go_enter Tryz.func92, Tryz.ntmps92
 go_wp2_with fail
 go_loopw [4] (fun sv wr => ∃ (m f F : Nat) (sz : Int) (xs : List Value) (zs : List Tree), m ≤ L.length ∧ xs.length ≤ m ∧ Hid (L.length < m + f) ∧ Hid (RdAt wr b L m len dp) ∧ Hid (Only (Mine b) w wr) ∧ Hid (wr.ownsRow w.heap.size 70 1 sv xs.length xs) ∧ Hid (Parts F wr (ApartT w.heap.size sv) xs zs) ∧ Hid (Pro.termsP L len D n = Pro.termsO L len D f sz m) ∧ Hid (Pro.termsQ L len D DT n = Pro.tSeq (Pro.termsT L len D DT f zs m))) (fun _ wr => L.length - rdN wr b)
 case atStart => exact ⟨n, L.length + 1 - n, 0, 0, [], [], hn, by simp, (by show _ < _; omega), h, Only.refl _ _, World.ownsRow_nil _ _ _ _, ⟨rfl, fun j x z hx => by simp at hx⟩, rfl, rfl⟩
 case round =>
   obtain ⟨m, f, F, sz, xs, zs, hm, hxl, hf, HR, HO, Hown, Hsz, HF, HT⟩ := hrel
   obtain ⟨f, rfl⟩ : ∃ f', f = f' + 1 := ⟨f - 1, by have := unhide hf; omega⟩
   have T := hide (Trk.start (unhide HR) ((unhide HS).mine (unhide HO) hb) hb)
   have hrd := (unhide T).rdN
   cases hst : Pro.stopB L m
   · have hml : m < L.length := by unfold Pro.stopB at hst; simp at hst; omega
     have he : ((m : Int) == (L.length : Int)) = false := by simp; omega
     have hp1 : (Pro.letAt L m != 124) = true := by unfold Pro.stopB at hst; simp at hst ⊢; omega
     have hp2 : (Pro.letAt L m != 41) = true := by unfold Pro.stopB at hst; simp at hst ⊢; omega
     have hin := Pro.termO_in (len := len) (unhide HD) m hml
     by_cases hk : (Pro.termO L len D m).k = 0
     · have HO1 : Hid (Pro.termsP L len D n = Pro.termsO L len D f (min (sz + (Pro.termO L len D m).v) 301) (Pro.termO L len D m).n) := by rw [unhide HF]; simp only [Pro.termsO]; rw [if_neg (by simp [hst]), if_neg (by simp [hk])]; rfl
       have HT1 : Hid (Pro.termsQ L len D DT n = Pro.tSeq (Pro.termsT L len D DT f (zs ++ [Pro.termT L len D DT m]) (Pro.termO L len D m).n)) := by rw [unhide HT]; simp only [Pro.termsT]; rw [if_neg (by simp [hst])]; rfl
       obtain ⟨sa, sn, sc, rfl⟩ := own_slice (unhide Hown)
       go_wp2_with (first
         | (go_at_call 60; refine (atEnd_t (n := m) (by exact unhide T)).mono ?_; rintro e wq ⟨rfl, qq, rfl⟩)
         | (go_at_call 131; refine (peek_t (n := m) (by exact (unhide T).drewN _) hL (by omega)).mono ?_; rintro e wq ⟨rfl, hwq⟩; have hwr := hwq.symm; subst hwr; clear hwq)
         | (go_at_call 132; refine (termT_any b L m len dp a D DT _ (Trk.rd (n := m) (by exact (unhide T).drewN _)) (Trk.se (n := m) (by exact (unhide T).drewN _)) hb hL hml hF (unhide HG) (unhide HD)).mono ?_; intro e w3 hg; obtain ⟨T3, y3, F3, rfl, hs3, hO3, hR3⟩ := givesT_yes hg hk; have hO3 : Only (Mine b) wr w3 := ((Only.refl (Mine b) wr).drewN _).trans hO3; have Hs3 : Hid (PartAt F3 w3 (fun g => wr.heap.size ≤ g) (.iface T3 y3) (Pro.termT L len D DT m)) := hs3; have HO3 := hide hO3; have HR3 := hide hR3; have hsz3 := hO3.size; have Hown3 := hide (ownsRow_keep (unhide Hown) hO3 (fun g hg e => by unfold Mine at e; have := (ownsRow_block (unhide Hown) g hg).1; omega)); clear hg hs3 hO3 hR3)
         | (at_builtin; refine append_sep _ rfl _ _ 213 rfl w.heap.size 70 i0 .nilIface 1 16 Tryz.underlying213 hi hz0 hz1 hz2 rfl (by decide) _ _ xs rfl (World.ownsRow.alloc (unhide Hown3) _) _ 1 1 [.iface T3 y3] rfl rfl (cell_one_new _ _ _) (fun x hx => by simp at hx; subst hx; rfl) (by unfold maxLen; omega) (by omega) (by simp; have := (unhide HO).size; omega) ?_; intro v' w4 hown' hgrow hsep; have Hown4 := hide hown'; have Hgr := hide hgrow; have Hsep := hide hsep; clear hown' hgrow hsep))
       have hszw := (unhide HO).size
       have hO4 : Only (Mine b) w w4 := (((unhide HO).trans (unhide HO3)).alloc _).grown (unhide Hgr) (fun j hj => Or.inr (ownsRow_block (unhide Hown) j hj).1)
       have hnb : ∀ g, g ≤ b → ¬ ((Value.slice sa sn sc).ownBlock = some g) := fun g hg e => by have := (ownsRow_block (unhide Hown) g e).1; omega
       have hR4 : RdAt w4 b L (Pro.termO L len D m).n len dp := ((unhide HR3).keep ((Only.refl (fun _ => False) w3).alloc _) (fun f => f) (fun _ _ f => f)).keep (Only.ofGrown (unhide Hgr)) (hnb b (Nat.le_refl _)) (fun g hg => hnb g (by omega))
       have T4 := Trk.start hR4 ((unhide HS).mine hO4 hb) hb
       refine ⟨⟨(Pro.termO L len D m).n, f, max F F3, _, xs ++ [.iface T3 y3], zs ++ [Pro.termT L len D DT m], hin.2.1, by have := (hin.2.2 hk).1; simp; omega, (by have := (hin.2.2 hk).1; have := unhide hf; show _ < _; omega), hR4, hO4, (by show World.ownsRow _ _ _ _ _ _ _; rw [List.length_append]; exact unhide Hown4), row_growT hszw hlt (unhide Hown) (unhide Hsz) (unhide HO3) (unhide Hs3) ((Only.refl _ _).alloc _) (unhide Hgr) (unhide Hsep), HO1, HT1⟩, by rw [T4.rdN, hrd]; have := (hin.2.2 hk).1; omega⟩
     · have HO1 : Hid (Pro.termsP L len D n = Pro.termO L len D m) := by rw [unhide HF]; simp only [Pro.termsO]; rw [if_neg (by simp [hst]), if_pos hk]; rfl
       go_wp2_with (first
         | (go_at_call 60; refine (atEnd_t (n := m) (by exact unhide T)).mono ?_; rintro e wq ⟨rfl, qq, rfl⟩)
         | (go_at_call 131; refine (peek_t (n := m) (by exact (unhide T).drewN _) hL (by omega)).mono ?_; rintro e wq ⟨rfl, hwq⟩; have hwr := hwq.symm; subst hwr; clear hwq)
         | (go_at_call 132; refine (termT_any b L m len dp a D DT _ (Trk.rd (n := m) (by exact (unhide T).drewN _)) (Trk.se (n := m) (by exact (unhide T).drewN _)) hb hL hml hF (unhide HG) (unhide HD)).mono ?_; intro e w3 hg; obtain ⟨g3, rfl, hv3, hO3, hR3⟩ := givesT_no hg hk; have Hv3 := hide hv3; have HO3 := hide hO3; have HR3 := hide hR3; clear hg hv3 hO3 hR3))
       go_ret2
       rw [unhide HO1]
       have hO3 : Only (Mine b) w w3 := ((unhide HO).drewN _).trans (unhide HO3)
       exact ⟨hO3, unhide HR3, .inr ⟨hk, _, rfl, (unhide Hv3).base (unhide HO).size⟩⟩
   · have HO1 : Hid (Pro.termsP L len D n = Pro.good sz m) := by rw [unhide HF]; simp only [Pro.termsO]; rw [if_pos hst]; rfl
     have HT1 : Hid (Pro.termsQ L len D DT n = Pro.tSeq zs) := by rw [unhide HT]; simp only [Pro.termsT]; rw [if_pos hst]; rfl
     have hcs : ((m : Int) == (L.length : Int)) = true ∨ (((m : Int) == (L.length : Int)) = false ∧ (Pro.letAt L m != 124) = false) ∨ (((m : Int) == (L.length : Int)) = false ∧ (Pro.letAt L m != 124) = true ∧ (Pro.letAt L m != 41) = false) := by
       by_cases h1 : m = L.length
       · left; simp [h1]
       · right
         by_cases h2 : Pro.letAt L m = 124
         · left; exact ⟨by simp; omega, by simp [h2]⟩
         · right; exact ⟨by simp; omega, by simp [h2], by unfold Pro.stopB at hst; simp at hst ⊢; omega⟩
     rcases hcs with k1 | ⟨k1, k2⟩ | ⟨k1, k2, k3⟩
     all_goals
       go_wp2_with (first | (go_at_call 60; refine (atEnd_t (n := m) (by exact unhide T)).mono ?_; rintro e wq ⟨rfl, qq, rfl⟩) | (go_at_call 131; refine (peek_t (n := m) (by exact (unhide T).drewN _) hL (by omega)).mono ?_; rintro e wq ⟨rfl, hwq⟩; have hwr := hwq.symm; subst hwr; clear hwq))
       go_ret2
       have hsz := (unhide Hsz).mono (B := fun g => w.heap.size ≤ g) (fun g _ hg => hg.1)
       rw [unhide HT1]
       refine GivesT.good (F := F + 1) (unhide HO1) ((unhide HO).drewN _) ((unhide HR).drewN _) ?_
       exact .inr (.inr (.inl ⟨_, xs, zs, rfl, rfl, (row_ofT (unhide Hown)).keep ((Only.refl (fun _ => False) _).drewN _) (fun _ _ f => f), by omega, hsz.1, fun j x z' hx hz => PartAt.keep ((Only.refl (fun _ => False) _).drewN _) (fun _ _ f => f) F x z' (hsz.2 j x z' hx hz)⟩))
theorem alt_growT {b : Nat} {L : List (Int × Int)} {len dp : Int} {a : Nat → Addr} {w wr w3 W w4 : World} {sv sv' x : Value} {T : TypeId} {xs : List Value} {zs : List Tree} {z : Tree} {F G m : Nat} (hlt : b < w.heap.size) (_hb : 10 ≤ b) (_hS : Sents w a) (hO : Only (Mine b) w wr) (hown : wr.ownsRow w.heap.size T 1 sv xs.length xs) (hsz : Parts F wr (ApartT w.heap.size sv) xs zs) (hO3 : Only (Mine b) wr w3) (hR3 : RdAt w3 b L m len dp) (hx : PartAt G w3 (fun g => wr.heap.size ≤ g) x z)
   (hW : Only (fun _ => False) w3 W) (hg : W.grownBy w4 sv.ownBlock) (hsep : ∀ k, sv'.ownBlock = some k → sv.ownBlock = some k ∨ W.heap.size ≤ k) : Only (Mine b) w w4 ∧ RdAt w4 b L m len dp ∧ Parts (max F G) w4 (ApartT w.heap.size sv') (xs ++ [x]) (zs ++ [z]) := by
 have hnb : ∀ g, g ≤ b → ¬ (sv.ownBlock = some g) := fun g hg e => by have := (ownsRow_block hown g e).1; omega
 refine ⟨(((hO.trans hO3).trans (hW.mono (fun _ _ f => f.elim)))).grown hg (fun j hj => Or.inr (ownsRow_block hown j hj).1), (hR3.keep hW (fun f => f) (fun _ _ f => f)).keep (Only.ofGrown hg) (hnb b (Nat.le_refl _)) (fun g hg => hnb g (by omega)), row_growT hO.size hlt hown hsz hO3 hx hW hg hsep⟩
theorem alternativesT_any (b : Nat) (L : List (Int × Int)) (n : Nat) (len dp : Int) (a : Nat → Addr) (D : Nat → Pro.Out) (DT : Nat → Tree) (w : World) (h : RdAt w b L n len dp) (hS : Sents w a) (hb : 10 ≤ b) (hL : L.length ≤ 400) (hn : n ≤ L.length) (hF : Pro.Fit L) (hG : GroupOKT b L len dp a D DT) (hD : Pro.DOK L D) :
   Calls Tryz.prog 59 #[.pointer (some ⟨b, 0, none⟩)] w (GivesT b L len dp a w (Pro.altP L len D n) (Pro.altQ L len D DT n)) := by
 obtain ⟨i0, hi, hz0, hz1, hz2⟩ := info_parts Tryz.infoPtT
 have hlt := h.lt
 have HS := hide hS
 have HG := hide hG
 have HD := hide hD
 clear hS hG hD
 go_enter Tryz.func59, Tryz.ntmps59
 go_wp2_with fail
 go_loopw [4] (fun sv wr => ∃ (m f F : Nat) (ys : List Int) (xs : List Value) (zs : List Tree), m ≤ L.length ∧ xs.length ≤ m ∧ Hid (L.length < m + f) ∧ Hid (RdAt wr b L m len dp) ∧ Hid (Only (Mine b) w wr) ∧ Hid (wr.ownsRow w.heap.size 70 1 sv xs.length xs) ∧ Hid (Parts F wr (ApartT w.heap.size sv) xs zs) ∧ Hid (Pro.altP L len D n = Pro.altO L len D f ys m) ∧ Hid (Pro.altQ L len D DT n = Pro.tAlt (Pro.altT L len D DT f zs m))) (fun _ wr => L.length - rdN wr b)
 case atStart => exact ⟨n, L.length + 1 - n, 0, [], [], [], hn, by simp, (by show _ < _; omega), h, Only.refl _ _, World.ownsRow_nil _ _ _ _, ⟨rfl, fun j x z hx => by simp at hx⟩, rfl, rfl⟩
 case round =>
   obtain ⟨m, f, F, ys, xs, zs, hm, hxl, hf, HR, HO, Hown, Hsz, HF, HT⟩ := hrel
   obtain ⟨f, rfl⟩ : ∃ f', f = f' + 1 := ⟨f - 1, by have := unhide hf; omega⟩
   have hrd := (Trk.start (unhide HR) ((unhide HS).mine (unhide HO) hb) hb).rdN
   have hin := Pro.termsP_in (len := len) (unhide HD) m hm
   by_cases hk : (Pro.termsP L len D m).k = 0
   · obtain ⟨sa, sn, sc, rfl⟩ := own_slice (unhide Hown)
     by_cases hbar : Pro.letAt L (Pro.termsP L len D m).n = 124
     · have m1 : Pro.matchB L (Pro.termsP L len D m).n { data := #[124] } = true := by rw [Pro.matchB_one L _ 124 124 rfl]; simp [hbar]
       have hlt2 := Pro.letAt_in' (L := L) (n := (Pro.termsP L len D m).n) (by omega)
       have HO1 : Hid (Pro.altP L len D n = Pro.altO L len D f (ys ++ [(Pro.termsP L len D m).v]) ((Pro.termsP L len D m).n + 1)) := by rw [unhide HF]; simp only [Pro.altO]; rw [if_neg (by simp [hk]), if_pos hbar]; rfl
       have HT1 : Hid (Pro.altQ L len D DT n = Pro.tAlt (Pro.altT L len D DT f (zs ++ [Pro.termsQ L len D DT m]) ((Pro.termsP L len D m).n + 1))) := by rw [unhide HT]; simp only [Pro.altT]; rw [if_pos hbar]; rfl
       clear hbar
       go_wp2_with (first
         | (go_at_call 92; refine (termsT_any b L m len dp a D DT _ (unhide HR) ((unhide HS).mine (unhide HO) hb) hb hL hm hF (unhide HG) (unhide HD)).mono ?_; intro e w3 hg; obtain ⟨T3, y3, F3, rfl, hs3, hO3, hR3⟩ := givesT_yes hg hk; have Hs3 := hide hs3; have HO3 := hide hO3; have HR3 := hide hR3; have hsz3 := hO3.size; have Hown3 := hide (ownsRow_keep (unhide Hown) hO3 (fun g hg e => by unfold Mine at e; have := (ownsRow_block (unhide Hown) g hg).1; omega)); clear hg hs3 hO3 hR3)
         | (at_builtin; refine append_sep _ rfl _ _ 189 rfl w.heap.size 70 i0 .nilIface 1 16 Tryz.underlying189 hi hz0 hz1 hz2 rfl (by decide) _ _ xs rfl (World.ownsRow.alloc (unhide Hown3) _) _ 1 1 [.iface T3 y3] rfl rfl (cell_one_new _ _ _) (fun x hx => by simp at hx; subst hx; rfl) (by unfold maxLen; omega) (by omega) (by simp; have := (unhide HO).size; omega) ?_; intro v' w4 hown' hgrow hsep; have hG4 := alt_growT hlt hb (unhide HS) (unhide HO) (unhide Hown) (unhide Hsz) (unhide HO3) (unhide HR3) (unhide Hs3) ((Only.refl _ _).alloc _) hgrow hsep; obtain ⟨hO4, hR4, hsz4⟩ := hG4; have T := hide (Trk.start hR4 ((unhide HS).mine hO4 hb) hb); have HO4 := hide hO4; have Hsz4 := hide hsz4; have Hown4 := hide hown'; clear hown' hgrow hsep hO4 hR4 hsz4)
         | (go_at_call 93; refine (take_t (n := (Pro.termsP L len D m).n) _ (by exact unhide T) hL (by omega) (by decide) (by assumption)).mono ?_; rintro e wq ⟨rfl, tq⟩; have tq : Trk _ _ b L (((Pro.termsP L len D m).n) + 1) len dp a wq := tq; have T := hide tq; have c1 := tq.c1; have f1 := tq.f1))
       have hk4 := Own.to (unhide T).on
       have hown5 : wq.ownsRow w.heap.size 70 1 v' (xs.length + 1) (xs ++ [.iface T3 y3]) := ownsRow_keep (unhide Hown4) hk4 (fun g hg e => by unfold Mine at e; have := (ownsRow_block (unhide Hown4) g hg).1; omega)
       exact ⟨⟨(Pro.termsP L len D m).n + 1, f, max F F3, _, xs ++ [Value.iface T3 y3], zs ++ [Pro.termsQ L len D DT m], by omega, by simp; omega, (by have := unhide hf; show _ < _; omega), (unhide T).rd, (unhide HO4).trans hk4, (by show World.ownsRow _ _ _ _ _ _ _; rw [List.length_append]; exact hown5), hide ((unhide Hsz4).keep hk4 (fun g hg e => by unfold Mine at e; have := hg.1; omega)), HO1, HT1⟩, by rw [(unhide T).rdN, hrd]; omega⟩
     · have m1 : Pro.matchB L (Pro.termsP L len D m).n { data := #[124] } = false := by rw [Pro.matchB_one L _ 124 124 rfl]; simp [hbar]
       have HO1 : Hid (Pro.altP L len D n = Pro.good (min (Pro.sumS 0 (ys ++ [(Pro.termsP L len D m).v]) + ((ys.length : Int) + 1) - 1) 301) (Pro.termsP L len D m).n) := by rw [unhide HF]; simp only [Pro.altO]; rw [if_neg (by simp [hk]), if_neg hbar]; rfl
       have HT1 : Hid (Pro.altQ L len D DT n = Pro.tAlt (zs ++ [Pro.termsQ L len D DT m])) := by rw [unhide HT]; simp only [Pro.altT]; rw [if_neg hbar]; rfl
       clear hbar
       go_wp2_with (first
         | (go_at_call 92; refine (termsT_any b L m len dp a D DT _ (unhide HR) ((unhide HS).mine (unhide HO) hb) hb hL hm hF (unhide HG) (unhide HD)).mono ?_; intro e w3 hg; obtain ⟨T3, y3, F3, rfl, hs3, hO3, hR3⟩ := givesT_yes hg hk; have Hs3 := hide hs3; have HO3 := hide hO3; have HR3 := hide hR3; have hsz3 := hO3.size; have Hown3 := hide (ownsRow_keep (unhide Hown) hO3 (fun g hg e => by unfold Mine at e; have := (ownsRow_block (unhide Hown) g hg).1; omega)); clear hg hs3 hO3 hR3)
         | (at_builtin; refine append_sep _ rfl _ _ 189 rfl w.heap.size 70 i0 .nilIface 1 16 Tryz.underlying189 hi hz0 hz1 hz2 rfl (by decide) _ _ xs rfl (World.ownsRow.alloc (unhide Hown3) _) _ 1 1 [.iface T3 y3] rfl rfl (cell_one_new _ _ _) (fun x hx => by simp at hx; subst hx; rfl) (by unfold maxLen; omega) (by omega) (by simp; have := (unhide HO).size; omega) ?_; intro v' w4 hown' hgrow hsep; have hG4 := alt_growT hlt hb (unhide HS) (unhide HO) (unhide Hown) (unhide Hsz) (unhide HO3) (unhide HR3) (unhide Hs3) ((Only.refl _ _).alloc _) hgrow hsep; obtain ⟨hO4, hR4, hsz4⟩ := hG4; have T := hide (Trk.start hR4 ((unhide HS).mine hO4 hb) hb); have HO4 := hide hO4; have Hsz4 := hide hsz4; have Hown4 := hide hown'; clear hown' hgrow hsep hO4 hR4 hsz4)
         | (go_at_call 93; refine (takeno_t (n := (Pro.termsP L len D m).n) _ (by exact unhide T) hL (by omega) (by decide) (by assumption)).mono ?_; rintro e wq ⟨rfl, qq, rfl⟩))
       go_ret2
       have hsz := (unhide Hsz4).mono (B := fun g => w.heap.size ≤ g) (fun g _ hg => hg.1)
       have hown5 : w4.ownsRow w.heap.size 70 1 v' (xs ++ [Value.iface T3 y3]).length (xs ++ [Value.iface T3 y3]) := by rw [List.length_append]; exact unhide Hown4
       rw [unhide HT1]
       refine GivesT.good (F := max F F3 + 1) (unhide HO1) ((unhide HO4).drewN _) ((unhide T).rd.drewN _) ?_
       exact .inr (.inl ⟨_, xs ++ [.iface T3 y3], zs ++ [Pro.termsQ L len D DT m], rfl, rfl, (row_ofT hown5).keep ((Only.refl (fun _ => False) _).drewN _) (fun _ _ f => f), by simp; omega, hsz.1, fun j x z' hx hz => PartAt.keep ((Only.refl (fun _ => False) _).drewN _) (fun _ _ f => f) _ x z' (hsz.2 j x z' hx hz), by simp⟩)
   · have HO1 : Hid (Pro.altP L len D n = Pro.termsP L len D m) := by rw [unhide HF]; simp only [Pro.altO]; rw [if_pos hk]; rfl
     go_wp2_with (first
       | (go_at_call 92; refine (termsT_any b L m len dp a D DT _ (unhide HR) ((unhide HS).mine (unhide HO) hb) hb hL hm hF (unhide HG) (unhide HD)).mono ?_; intro e w3 hg; obtain ⟨g3, rfl, hv3, hO3, hR3⟩ := givesT_no hg hk; have Hv3 := hide hv3; have HO3 := hide hO3; have HR3 := hide hR3; clear hg hv3 hO3 hR3))
     go_ret2
     rw [unhide HO1]
     exact ⟨(unhide HO).trans (unhide HO3), unhide HR3, .inr ⟨hk, _, rfl, (unhide Hv3).base (unhide HO).size⟩⟩
theorem RdAt.setDT {w : World} {b : Nat} {L : List (Int × Int)} {n : Nat} {len dp : Int} (h : RdAt w b L n len dp) (j : Int) : RdAt (w.setCell ⟨b, 3, none⟩ (.int .i64 j)) b L n len j := by
 obtain ⟨c0, c1, c2, c3, f1, f3⟩ := h
 refine ⟨?_, (World.cell?_setCell_other _ _ _ _ (by simp)).trans c1, (World.cell?_setCell_other _ _ _ _ (by simp)).trans c2, World.cell?_setCell_same _ _ _ c3, (frozen_setCell _ _ _ _).trans f1, (frozen_setCell _ _ _ _).trans f3⟩
 rcases c0 with ⟨g, cap, c0, hcap, hne, hrow⟩ | ⟨rfl, c0⟩
 · exact .inl ⟨g, cap, (World.cell?_setCell_other _ _ _ _ (by simp)).trans c0, hcap, hne, hrow.keep ((Only.refl (Mine b) w).mine 3 _) (by unfold Mine; omega)⟩
 · exact .inr ⟨rfl, (World.cell?_setCell_other _ _ _ _ (by simp)).trans c0⟩
theorem part_close {b F : Nat} {w w1 w2 w3 : World} {v : Value} {z : Tree} (hlt : b < w.heap.size) (h1 : Only (Mine b) w w1) (hs : PartAt F w2 (fun g => w1.heap.size ≤ g) v z) (h3 : Only (Mine b) w2 w3) : PartAt F w3 (fun g => w.heap.size ≤ g) v z :=
 PartAt.keep h3 (A := fun g => w.heap.size ≤ g) (fun g hg e => by unfold Mine at e; subst e; exact absurd hlt (Nat.not_lt.2 hg)) F v z (PartAt.mono (fun g _ hg => Nat.le_trans h1.size hg) F v z hs)
theorem group_deepT (b : Nat) (L : List (Int × Int)) (len : Int) (a : Nat → Addr) (hb : 10 ≤ b) (hL : L.length ≤ 400) : GroupOKT b L len 10 a (Pro.deepO L len 0) (Pro.deepT L len 0) := by
 intro n w h hS hn
 have T := hide (Trk.start h hS hb)
 have c3 := h.c3
 have hs7 := hS.s7
 clear h hS
 go_enter Tryz.func215, Tryz.ntmps215
 go_wp2_with fail
 go_region_with (first
   | (go_at_call 94; refine (place_t (n := n) (by exact (unhide T).drewN _) hL (by omega)).mono ?_; rintro e w1 ⟨rfl, q, rfl⟩)
   | (go_at_call 62; refine (new_t (n := n) _ 7 _ _ rfl (by exact (unhide T).drewN _)).mono ?_; rintro e w1 ⟨v, rfl, hv, tq⟩))
 all_goals go_wp2_with fail
 all_goals
   go_ret2
   exact GivesT.bad rfl (show (7 : Nat) ≠ 0 by decide) (Own.to tq.on) tq.rd hv
theorem group_stepT (b : Nat) (L : List (Int × Int)) (len dp : Int) (a : Nat → Addr) (r : Nat) (hb : 10 ≤ b) (hL : L.length ≤ 400) (h0 : 0 ≤ dp) (h1 : dp < 10)
   (hA : ∀ (n : Nat) (w : World), RdAt w b L n len (dp + 1) → Sents w a → n ≤ L.length → Calls Tryz.prog 59 #[.pointer (some ⟨b, 0, none⟩)] w (GivesT b L len (dp + 1) a w (Pro.altP L len (Pro.deepO L len r) n) (Pro.altQ L len (Pro.deepO L len r) (Pro.deepT L len r) n))) : GroupOKT b L len dp a (Pro.deepO L len (r + 1)) (Pro.deepT L len (r + 1)) := by
 intro n w h hS hn
 have hlt := h.lt
 have HR := hide h
 have HS := hide hS
 have HA := hide hA
 have c3 := h.c3
 have hd : (dp == 10) = false := by simp; omega
 clear h hS hA
 have ho := Pro.openO_in (L := L) (len := len) n hn
 have ha := Pro.altP_in (len := len) (Pro.deepO_in (L := L) (len := len) r) (Pro.openO L len n).n ho.2
 by_cases hk1 : (Pro.openO L len n).k = 0
 · by_cases hk2 : (Pro.altP L len (Pro.deepO L len r) (Pro.openO L len n).n).k = 0
   · by_cases hc : Pro.letAt L (Pro.altP L len (Pro.deepO L len r) (Pro.openO L len n).n).n = 41
     · have m1 : Pro.matchB L (Pro.altP L len (Pro.deepO L len r) (Pro.openO L len n).n).n { data := #[41] } = true := by rw [Pro.matchB_one L _ 41 41 rfl]; simp [hc]
       have HO : Hid (Pro.deepO L len (r + 1) n = Pro.good (Pro.altP L len (Pro.deepO L len r) (Pro.openO L len n).n).v ((Pro.altP L len (Pro.deepO L len r) (Pro.openO L len n).n).n + 1)) := by simp only [Pro.deepO]; unfold Pro.groupO; rw [if_neg (by simp [hk1]), if_neg (by simp [hk2]), if_pos hc]; rfl
       clear hc
       go_enter Tryz.func215, Tryz.ntmps215
       go_wp2_with (first
         | (go_at_call 254; refine (opening_any b L n len dp a _ (unhide HR) (unhide HS) hb hL hn).mono ?_; rintro e w1 ⟨tq, hT⟩; obtain ⟨rfl, _⟩ := adds_yes hT hk1; clear hT; have T1 := hide tq; have c31 := tq.rd.c3; have f31 := tq.rd.f3; clear tq)
         | (go_at_call 59; refine (unhide HA (Pro.openO L len n).n _ ((unhide T1).rd.setDT _) ((unhide T1).se.mine ((Only.refl _ _).mine _ _) hb) ho.2).mono ?_; intro e w2 hg; obtain ⟨T2, y2, F2, rfl, hs2, hO2, hR2⟩ := givesT_yes hg hk2; have Hs2 := hide hs2; have HO2 := hide hO2; have HR2 := hide hR2; have c32 := hR2.c3; have f32 := hR2.f3; clear hg hs2 hO2 hR2)
         | (go_at_call 93; refine (take_yes b L (Pro.altP L len (Pro.deepO L len r) (Pro.openO L len n).n).n len dp _ _ ((unhide HR2).setDT _) hL (by omega) (by decide) (by assumption)).mono ?_; rintro e w3 ⟨rfl, hR3, hO3⟩; have HR3 := hide hR3; have HO3 := hide hO3; clear hR3 hO3))
       go_ret2
       have hA1 : Only (Mine b) w (w1.setCell ⟨b, 3, none⟩ (.int .i64 (dp + 1))) := (Own.to (unhide T1).on).mine _ _
       have hA2 : Only (Mine b) w2 w3 := ((Only.refl (Mine b) w2).mine 3 _).trans (unhide HO3)
       exact GivesT.good (unhide HO) ((hA1.trans (unhide HO2)).trans hA2) (unhide HR3) (part_close hlt hA1 (unhide Hs2) hA2)
     · have m1 : Pro.matchB L (Pro.altP L len (Pro.deepO L len r) (Pro.openO L len n).n).n { data := #[41] } = false := by rw [Pro.matchB_one L _ 41 41 rfl]; simp [hc]
       have HO : Hid (Pro.deepO L len (r + 1) n = Pro.bad 3 (Pro.placeAt L len (Pro.altP L len (Pro.deepO L len r) (Pro.openO L len n).n).n) (Pro.altP L len (Pro.deepO L len r) (Pro.openO L len n).n).n) := by simp only [Pro.deepO]; unfold Pro.groupO; rw [if_neg (by simp [hk1]), if_neg (by simp [hk2]), if_neg hc]; rfl
       clear hc
       go_enter Tryz.func215, Tryz.ntmps215
       go_wp2_with (first
         | (go_at_call 254; refine (opening_any b L n len dp a _ (unhide HR) (unhide HS) hb hL hn).mono ?_; rintro e w1 ⟨tq, hT⟩; obtain ⟨rfl, _⟩ := adds_yes hT hk1; clear hT; have T1 := hide tq; have c31 := tq.rd.c3; have f31 := tq.rd.f3; clear tq)
         | (go_at_call 59; refine (unhide HA (Pro.openO L len n).n _ ((unhide T1).rd.setDT _) ((unhide T1).se.mine ((Only.refl _ _).mine _ _) hb) ho.2).mono ?_; intro e w2 hg; obtain ⟨T2, y2, F2, rfl, hs2, hO2, hR2⟩ := givesT_yes hg hk2; have Hs2 := hide hs2; have HO2 := hide hO2; have HR2 := hide hR2; have c32 := hR2.c3; have f32 := hR2.f3; clear hg hs2 hO2 hR2); (have T := hide (Trk.start ((unhide HR2).setDT dp) (((unhide HS).mine (((Own.to (unhide T1).on).mine 3 _).trans (unhide HO2)) hb).mine ((Only.refl _ _).mine 3 _) hb) hb))
         | (go_at_call 93; refine (takeno_t (n := (Pro.altP L len (Pro.deepO L len r) (Pro.openO L len n).n).n) _ (by exact unhide T) hL (by omega) (by decide) (by assumption)).mono ?_; rintro e wq ⟨rfl, qq, rfl⟩)
         | (go_at_call 61; refine (wrong_t (n := (Pro.altP L len (Pro.deepO L len r) (Pro.openO L len n).n).n) (by exact (unhide T).drewN _) hL (by omega)).mono ?_; rintro e wq ⟨v, rfl, hv, tq⟩; have T := hide tq; have c1 := tq.c1; have f1 := tq.f1))
       go_ret2
       have hA1 : Only (Mine b) w (w1.setCell ⟨b, 3, none⟩ (.int .i64 (dp + 1))) := (Own.to (unhide T1).on).mine _ _
       have hA2 := (hA1.trans (unhide HO2)).mine 3 (.int .i64 dp)
       exact GivesT.bad (unhide HO) (by decide) (hA2.trans (Own.to (unhide T).on)) (unhide T).rd (hv.base hA2.size)
   · have HO : Hid (Pro.deepO L len (r + 1) n = (Pro.altP L len (Pro.deepO L len r) (Pro.openO L len n).n)) := by simp only [Pro.deepO]; unfold Pro.groupO; rw [if_neg (by simp [hk1]), if_pos hk2]; rfl
     go_enter Tryz.func215, Tryz.ntmps215
     go_wp2_with (first
       | (go_at_call 254; refine (opening_any b L n len dp a _ (unhide HR) (unhide HS) hb hL hn).mono ?_; rintro e w1 ⟨tq, hT⟩; obtain ⟨rfl, _⟩ := adds_yes hT hk1; clear hT; have T1 := hide tq; have c31 := tq.rd.c3; have f31 := tq.rd.f3; clear tq)
       | (go_at_call 59; refine (unhide HA (Pro.openO L len n).n _ ((unhide T1).rd.setDT _) ((unhide T1).se.mine ((Only.refl _ _).mine _ _) hb) ho.2).mono ?_; intro e w2 hg; obtain ⟨g2, rfl, hv2, hO2, hR2⟩ := givesT_no hg hk2; have Hv2 := hide hv2; have HO2 := hide hO2; have HR2 := hide hR2; have c32 := hR2.c3; have f32 := hR2.f3; clear hg hv2 hO2 hR2))
     go_ret2
     have hA1 : Only (Mine b) w (w1.setCell ⟨b, 3, none⟩ (.int .i64 (dp + 1))) := (Own.to (unhide T1).on).mine _ _
     rw [unhide HO]
     exact ⟨(hA1.trans (unhide HO2)).mine 3 _, (unhide HR2).setDT dp, .inr ⟨hk2, _, rfl, ((unhide Hv2).base hA1.size).keep ((Only.refl (Mine b) _).mine 3 _) (fun g hg e => by unfold Mine at e; omega)⟩⟩
 · have HO : Hid (Pro.deepO L len (r + 1) n = Pro.openO L len n) := by simp only [Pro.deepO]; unfold Pro.groupO; rw [if_pos hk1]; rfl
   go_enter Tryz.func215, Tryz.ntmps215
   go_wp2_with (go_at_call 254; refine (opening_any b L n len dp a _ (unhide HR) (unhide HS) hb hL hn).mono ?_; rintro e w1 ⟨tq, hT⟩; obtain ⟨v, rfl, hv⟩ := adds_no hT hk1; clear hT; obtain ⟨gv, hgv⟩ := hv.form; subst hgv; have T1 := hide tq; clear tq)
   go_ret2
   rw [unhide HO]
   exact ⟨Own.to (unhide T1).on, (unhide T1).rd, .inr ⟨hk1, _, rfl, hv⟩⟩
theorem group_allT (b : Nat) (L : List (Int × Int)) (len : Int) (a : Nat → Addr) (hb : 10 ≤ b) (hL : L.length ≤ 400) (hF : Pro.Fit L) : ∀ r : Nat, r ≤ 10 → GroupOKT b L len ((10 : Int) - r) a (Pro.deepO L len r) (Pro.deepT L len r)
 | 0, _ => group_deepT b L len a hb hL
 | r + 1, hr => by
   have hG := group_allT b L len a hb hL hF r (by omega)
   refine group_stepT b L len _ a r hb hL (by omega) (by omega) ?_
   rw [show ((10 : Int) - ((r + 1 : Nat) : Int)) + 1 = (10 : Int) - r by omega]
   intro n w h hS hn
   exact alternativesT_any b L n len _ a (Pro.deepO L len r) (Pro.deepT L len r) w h hS hb hL hn hF hG (Pro.deepO_in r)
theorem alternatives_topT (b : Nat) (L : List (Int × Int)) (n : Nat) (len : Int) (a : Nat → Addr) (w : World) (h : RdAt w b L n len 0) (hS : Sents w a) (hb : 10 ≤ b) (hL : L.length ≤ 400) (hn : n ≤ L.length) (hF : Pro.Fit L) :
   Calls Tryz.prog 59 #[.pointer (some ⟨b, 0, none⟩)] w (GivesT b L len 0 a w (Pro.altP L len (Pro.deepO L len 10) n) (Pro.altQ L len (Pro.deepO L len 10) (Pro.deepT L len 10) n)) :=
 alternativesT_any b L n len 0 a (Pro.deepO L len 10) (Pro.deepT L len 10) w h hS hb hL hn hF (group_allT b L len a hb hL hF 10 (by omega)) (Pro.deepO_in 10)
end
section
open Sm (Tree capT)
namespace Pro
def SzIs (T : Tree) (v : Int) : Prop := ∃ F0, ∀ F, F0 ≤ F → capT F T = v
def SzAll (ts : List Tree) (zs : List Int) : Prop := ∃ F0, ∀ F, F0 ≤ F → ts.map (capT F) = zs
theorem sz_leaf {T : Tree} (h : T.kind ≤ 4) : SzIs T 1 := ⟨1, fun F hF => by
 obtain ⟨g, rfl⟩ : ∃ g, F = g + 1 := ⟨F - 1, by omega⟩
 unfold capT
 rw [if_neg (by omega), if_neg (by omega), if_neg (by omega)]⟩
theorem sz_nil : SzAll [] [] := ⟨0, fun _ _ => rfl⟩
theorem SzAll.snoc {ts : List Tree} {zs : List Int} {t : Tree} {z : Int} : SzAll ts zs → SzIs t z → SzAll (ts ++ [t]) (zs ++ [z])
 | ⟨F0, h⟩, ⟨F1, g⟩ => ⟨max F0 F1, fun F hF => by rw [List.map_append, h F (by omega)]; simp [g F (by omega)]⟩
theorem sz_seq {ts : List Tree} {zs : List Int} : SzAll ts zs → SzIs (tSeq ts) (sumS 0 zs)
 | ⟨F0, h⟩ => ⟨F0 + 1, fun F hF => by
   obtain ⟨g, rfl⟩ : ∃ g, F = g + 1 := ⟨F - 1, by omega⟩
   conv => lhs; unfold capT
   rw [if_neg (by simp [tSeq]), if_pos (by rfl)]
   show sumS 0 (ts.map (capT g)) = _
   rw [h g (by omega)]⟩
theorem SzAll.len {ts : List Tree} {zs : List Int} : SzAll ts zs → ts.length = zs.length
 | ⟨F0, h⟩ => by rw [← h F0 (Nat.le_refl _)]; simp
theorem sz_alt {ts : List Tree} {zs : List Int} (hz : SzAll ts zs) : SzIs (tAlt ts) (min (sumS 0 zs + zs.length - 1) 301) := by
 have hl := hz.len
 obtain ⟨F0, h⟩ := hz
 refine ⟨F0 + 1, fun F hF => ?_⟩
 obtain ⟨g, rfl⟩ : ∃ g, F = g + 1 := ⟨F - 1, by omega⟩
 conv => lhs; unfold capT
 rw [if_pos (by rfl)]
 show min (sumS 0 (ts.map (capT g)) + (ts.length : Int) - 1) 301 = _
 rw [h g (by omega), hl]
theorem sz_rep {t : Tree} {z : Int} (l m : Int) : SzIs t z → SzIs (tRep t l m) (min (repS z l m) 301)
 | ⟨F0, h⟩ => ⟨F0 + 1, fun F hF => by
   obtain ⟨g, rfl⟩ : ∃ g, F = g + 1 := ⟨F - 1, by omega⟩
   conv => lhs; unfold capT
   rw [if_neg (by simp [tRep]), if_neg (by simp [tRep]), if_pos (by rfl)]
   show min (repS (capT g t) l m) 301 = _
   rw [h g (by omega)]⟩
section
variable {L : List (Int × Int)} {len : Int}
theorem let_lt {n : Nat} {c : Int} (h : letAt L n = c) (hc : 0 ≤ c) : n < L.length := by
 by_cases hl : n < L.length
 · exact hl
 · rw [letAt_out (by omega)] at h; omega
theorem atomT_sz {D : Nat → Out} {DT : Nat → Tree} (hD : ∀ n, n < L.length → (D n).k = 0 → SzIs (DT n) (D n).v) (n : Nat) (hk : (atomO L len D n).k = 0) : SzIs (atomT L len DT n) (atomO L len D n).v := by
 unfold atomO at hk ⊢
 unfold atomT
 by_cases hw : wrongL (letAt L n) = true
 · rw [if_pos hw] at hk; simp [bad] at hk
 · rw [if_neg hw] at hk ⊢
   by_cases h1 : letAt L n = 40
   · rw [if_pos h1] at hk ⊢; rw [if_pos h1]; exact hD n (let_lt (c := 40) h1 (by omega)) hk
   · rw [if_neg h1] at hk ⊢; rw [if_neg h1]
     by_cases h2 : letAt L n = 91
     · rw [if_pos h2] at hk ⊢; rw [if_pos h2]
       unfold one at hk ⊢
       split at hk
       · rename_i h3; rw [if_pos h3]; exact sz_leaf (by simp [classT, tCls])
       · rename_i h3; exact absurd hk h3
     · rw [if_neg h2] at hk ⊢; rw [if_neg h2]
       by_cases h3 : letAt L n = 92
       · rw [if_pos h3] at hk ⊢; rw [if_pos h3]
         unfold one at hk ⊢
         split at hk
         · rename_i h4; rw [if_pos h4]; unfold oneT; split <;> exact sz_leaf (by simp [tShort, tChar])
         · rename_i h4; exact absurd hk h4
       · rw [if_neg h3] at hk ⊢; rw [if_neg h3]
         split <;> exact sz_leaf (by simp [tAny, tChar])
theorem termT_sz {D : Nat → Out} {DT : Nat → Tree} (hD : ∀ n, n < L.length → (D n).k = 0 → SzIs (DT n) (D n).v) (n : Nat) (hk : (termO L len D n).k = 0) : SzIs (termT L len D DT n) (termO L len D n).v := by
 unfold termO at hk ⊢
 unfold termT
 by_cases h0 : asN L n ≠ 0
 · rw [if_pos h0, if_pos h0]; exact sz_leaf (by simp [tAsr])
 · rw [if_neg h0] at hk ⊢; rw [if_neg h0]
   by_cases h1 : (atomO L len D n).k ≠ 0
   · rw [if_pos h1] at hk; exact absurd hk h1
   · rw [if_neg h1] at hk ⊢
     have ha := atomT_sz (L := L) (len := len) hD n (by simpa using h1)
     by_cases h2 : (quantO L len (atomO L len D n).n).1 = false
     · rw [if_pos h2, if_pos h2]; exact ha
     · rw [if_neg h2] at hk ⊢; rw [if_neg h2]
       by_cases h3 : (quantO L len (atomO L len D n).n).2.1.k ≠ 0
       · rw [if_pos h3] at hk; exact absurd hk h3
       · rw [if_neg h3]; exact sz_rep _ _ ha
theorem termsT_sz {D : Nat → Out} {DT : Nat → Tree} (hD : ∀ n, n < L.length → (D n).k = 0 → SzIs (DT n) (D n).v) : ∀ (f : Nat) (ts : List Tree) (zs : List Int) (n : Nat), SzAll ts zs → (termsO L len D f (sumS 0 zs) n).k = 0 → ∃ zs', SzAll (termsT L len D DT f ts n) zs' ∧ (termsO L len D f (sumS 0 zs) n).v = sumS 0 zs'
 | 0, _, zs, _, h, _ => ⟨zs, h, rfl⟩
 | f + 1, ts, zs, n, h, hk => by
   unfold termsO at hk ⊢
   unfold termsT
   by_cases h0 : stopB L n = true
   · rw [if_pos h0, if_pos h0]; exact ⟨zs, h, rfl⟩
   · rw [if_neg h0] at hk ⊢; rw [if_neg h0]
     by_cases h1 : (termO L len D n).k ≠ 0
     · rw [if_pos h1] at hk; exact absurd hk h1
     · rw [if_neg h1] at hk ⊢
       have ht := termT_sz (L := L) (len := len) hD n (by simpa using h1)
       rw [← sumS_append] at hk ⊢
       exact termsT_sz hD f _ _ _ (h.snoc ht) hk
theorem termsQ_sz {D : Nat → Out} {DT : Nat → Tree} (hD : ∀ n, n < L.length → (D n).k = 0 → SzIs (DT n) (D n).v) (n : Nat) (hk : (termsP L len D n).k = 0) : SzIs (termsQ L len D DT n) (termsP L len D n).v := by
 obtain ⟨zs, h1, h2⟩ := termsT_sz hD (L.length + 1 - n) [] [] n sz_nil hk
 have e : (termsP L len D n).v = sumS 0 zs := h2
 rw [e]
 exact sz_seq h1
theorem altT_sz {D : Nat → Out} {DT : Nat → Tree} (hO : DOK L D) (hD : ∀ n, n < L.length → (D n).k = 0 → SzIs (DT n) (D n).v) : ∀ (f : Nat) (ts : List Tree) (zs : List Int) (n : Nat), n ≤ L.length → L.length + 1 - n ≤ f → SzAll ts zs → (altO L len D f zs n).k = 0 → ∃ zs', SzAll (altT L len D DT f ts n) zs' ∧ (altO L len D f zs n).v = min (sumS 0 zs' + zs'.length - 1) 301
 | 0, _, _, n, h, hf, _, _ => by omega
 | f + 1, ts, zs, n, h, hf, hz, hk => by
   unfold altO at hk ⊢
   unfold altT
   have hin := termsP_in (len := len) hO n h
   by_cases h0 : (termsP L len D n).k ≠ 0
   · rw [if_pos h0] at hk; exact absurd hk h0
   · rw [if_neg h0] at hk ⊢
     have ht := termsQ_sz (L := L) (len := len) hD n (by simpa using h0)
     by_cases h1 : letAt L (termsP L len D n).n = 124
     · rw [if_pos h1] at hk ⊢; rw [if_pos h1]
       have hl := let_lt h1 (by omega)
       exact altT_sz hO hD f _ _ _ (by omega) (by omega) (hz.snoc ht) hk
     · rw [if_neg h1, if_neg h1]
       refine ⟨zs ++ [(termsP L len D n).v], hz.snoc ht, ?_⟩
       rw [List.length_append]
       rfl
theorem altQ_sz {D : Nat → Out} {DT : Nat → Tree} (hO : DOK L D) (hD : ∀ n, n < L.length → (D n).k = 0 → SzIs (DT n) (D n).v) (n : Nat) (hn : n ≤ L.length) (hk : (altP L len D n).k = 0) : SzIs (altQ L len D DT n) (altP L len D n).v := by
 obtain ⟨zs, h1, h2⟩ := altT_sz hO hD (L.length + 1 - n) [] [] n hn (Nat.le_refl _) sz_nil hk
 have e : (altP L len D n).v = min (sumS 0 zs + zs.length - 1) 301 := h2
 rw [e]
 exact sz_alt h1
theorem deepT_sz : ∀ (r n : Nat), n < L.length → (deepO L len r n).k = 0 → SzIs (deepT L len r n) (deepO L len r n).v
 | 0, _, _, hk => by simp [deepO, bad] at hk
 | r + 1, n, hn, hk => by
   have ho := openO_in (L := L) (len := len) n hn
   have e : deepO L len (r + 1) n = groupO L len (altP L len (deepO L len r)) n := rfl
   rw [e] at hk ⊢
   unfold groupO at hk ⊢
   by_cases h1 : (openO L len n).k ≠ 0
   · rw [if_pos h1] at hk; exact absurd hk h1
   · rw [if_neg h1] at hk ⊢
     by_cases h2 : (altP L len (deepO L len r) (openO L len n).n).k ≠ 0
     · rw [if_pos h2] at hk; exact absurd hk h2
     · rw [if_neg h2] at hk ⊢
       by_cases h3 : letAt L (altP L len (deepO L len r) (openO L len n).n).n = 41
       · rw [if_pos h3]
         exact altQ_sz (deepO_in r) (fun n hn hk => deepT_sz r n hn hk) _ (by omega) (by simpa using h2)
       · rw [if_neg h3] at hk; simp [bad] at hk
theorem whole_sz (r n : Nat) (hn : n ≤ L.length) (hk : (altP L len (deepO L len r) n).k = 0) : SzIs (altQ L len (deepO L len r) (deepT L len r) n) (altP L len (deepO L len r) n).v := altQ_sz (deepO_in r) (fun n hn hk => deepT_sz r n hn hk) n hn hk
end
theorem SzIs.at {T : Tree} {v : Int} {F : Nat} (h : SzIs T v) (hw : Sm.WF F T) : capT F T = v := by
 obtain ⟨F0, h0⟩ := h
 rw [← Sm.capT_up hw (show F ≤ max F F0 by omega)]
 exact h0 _ (by omega)
end Pro
end
end Go.Proofs.YtfnkbmglodopkaaGreatDoor
