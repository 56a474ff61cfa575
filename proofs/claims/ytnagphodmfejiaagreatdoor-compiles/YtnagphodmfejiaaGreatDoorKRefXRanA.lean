/- The reference's sizes. The reference's Compile. A loop over an iterator that keeps its state in cells of its own. -/
import Derived.Test.YtnagphodmfejiaaGreatDoorKEqLRefW
import Derived.Test.YtnagphodmfejiaaGreatDoorKBaseSemD
import Derived.RangeFuncWrites
import Derived.RangeFuncCalls
namespace Go.Proofs.YtnagphodmfejiaaGreatDoor
open Go.RowKit
def SizedOK (f : Nat) : Prop := ∀ (g off cap : Nat) (l : List Tok) (w : World) (z : Int), TokRow w g off l → l.length ≤ 1000 → l.length ≤ cap → (∀ t ∈ l, Ref.TokB t) → Ref.sizeS f l 0 = some z →
 Calls Tryz.prog 37 #[.slice (some ⟨g, off, none⟩) l.length cap] w fun x w' => x = .returned (.int .i64 z) ∧ Only (fun _ => False) w w'
theorem TokRow.only {w w' : World} {g off : Nat} {l : List Tok} (h : TokRow w g off l) (k : Only (fun _ => False) w w') : TokRow w' g off l := by
 intro j t hj
 obtain ⟨pa, pn, pc, z0, z1, z2, z3, z4, z5⟩ := h j t hj
 have e : ∀ (p : Addr) (v : Value), w.cell? p = some v → w'.cell? p = some v := fun p v hv => (k.cell (World.block_lt_of_cell? w p hv) (fun f => f)).trans hv
 exact ⟨pa, pn, pc, e _ _ z0, e _ _ z1, e _ _ z2, e _ _ z3, e _ _ z4, e _ _ z5⟩
namespace Ref
theorem kindAt_get {l : List Tok} {i : Nat} (hi : i < l.length) : kindAt l i = l[i].kind := by unfold kindAt; rw [List.getElem?_eq_getElem hi]
theorem drop_step {l : List Tok} {i : Nat} (hi : i < l.length) : l.drop i = l[i] :: l.drop (i + 1) := List.drop_eq_getElem_cons hi
theorem behind_none {rest : List Tok} {k : Int} (h : headKind rest ≠ 6) : behindAtom rest k = (k, rest) := by
 unfold behindAtom
 cases rest with
 | nil => rfl
 | cons q r => simp only []; rw [if_neg (show ¬ q.kind = 6 from h)]
theorem drop_kind {l : List Tok} {i : Nat} : headKind (l.drop i) = kindAt l i := by unfold headKind kindAt; rw [List.getElem?_drop, Nat.add_zero]
theorem drop_not {l : List Tok} {i : Nat} (h : ¬ (i < l.length ∧ kindAt l i = 6)) : headKind (l.drop i) ≠ 6 := by
 rw [drop_kind]
 intro hh
 by_cases hi : i < l.length
 · exact h ⟨hi, hh⟩
 · unfold kindAt at hh; rw [List.getElem?_eq_none (by omega)] at hh; exact absurd hh (by decide)
end Ref
theorem prod_in {x y X Y : Int} (h0 : 0 ≤ x) (h1 : x ≤ X) (h2 : 0 ≤ y) (h3 : y ≤ Y) : 0 ≤ x * y ∧ x * y ≤ X * Y := by
 refine ⟨Int.mul_nonneg h0 h2, ?_⟩
 have a := Int.mul_le_mul_of_nonneg_right h1 h2
 have b := Int.mul_le_mul_of_nonneg_left h3 (show (0 : Int) ≤ X by omega)
 omega
theorem inner_at {g off cap : Nat} {l : List Tok} {i j : Nat} {w : World} (h : TokRow w g off l) (hl : l.length ≤ 1000) (hc : l.length ≤ cap) (hE : i + j + 2 ≤ l.length) (h3 : Ref.kindAt l i = 3) :
   Calls Tryz.prog 74 #[.slice (some ⟨g, off + i * 6, none⟩) (i + j + 2 - i) (cap - i)] w fun x w' => x = .returned (.slice (some ⟨g, off + i * 6 + 6, none⟩) (i + j + 2 - i - 2) (cap - i - 1)) ∧ w' = w := by
 have hlen : ((l.drop i).take (j + 2)).length = i + j + 2 - i := by rw [List.length_take, List.length_drop]; omega
 have := inner_any g (off + i * 6) (cap - i) ((l.drop i).take (j + 2)) w (h.sub i (j + 2)) (by rw [hlen]; omega) (by rw [hlen]; omega) (by rw [hlen]; omega) (by
   unfold Ref.kindAt at h3 ⊢
   rw [List.getElem?_take, if_pos (by omega), List.getElem?_drop, Nat.add_zero]
   exact h3)
 rw [hlen] at this
 exact this
theorem sized_at {F : Nat} (hF : SizedOK F) {g off cap : Nat} {l : List Tok} {i j f : Nat} {k : Int} {w : World} (h : TokRow w g off l) (hl : l.length ≤ 1000) (hc : l.length ≤ cap) (hE : i + j + 2 ≤ l.length) (hb : ∀ t ∈ l, Ref.TokB t) (hk : Ref.sizeS f ((l.drop (i + 1)).take j) 0 = some k) (hf : f ≤ F) :
   Calls Tryz.prog 37 #[.slice (some ⟨g, off + i * 6 + 6, none⟩) (i + j + 2 - i - 2) (cap - i - 1)] w fun x w' => x = .returned (.int .i64 k) ∧ Only (fun _ => False) w w' := by
 have hlen : ((l.drop (i + 1)).take j).length = i + j + 2 - i - 2 := by rw [List.length_take, List.length_drop]; omega
 have := hF g (off + (i + 1) * 6) (cap - i - 1) ((l.drop (i + 1)).take j) w k (h.sub (i + 1) j) (by rw [hlen]; omega) (by rw [hlen]; omega) (fun t ht => hb t (List.mem_of_mem_drop (List.mem_of_mem_take ht))) (Ref.sizeS_le hk hf)
 rw [hlen, show off + (i + 1) * 6 = off + i * 6 + 6 by omega] at this
 exact this
namespace Ref
theorem behind_some {l : List Tok} {i : Nat} {k : Int} (hi : i < l.length) (h6 : kindAt l i = 6) : behindAtom (l.drop i) k = (qsize k l[i].mn l[i].mx, l.drop (i + 1)) := by
 rw [drop_step hi]
 unfold behindAtom
 simp only []
 rw [if_pos (by rw [← kindAt_get hi]; exact h6)]
end Ref
theorem min_if (x : Int) : (if (1000000 : Int) < x then (1000000 : Int) else x) = min 1000000 x := by split <;> omega
set_option maxHeartbeats 4000000 in
set_option maxRecDepth 1000000 in
theorem sized_step (F : Nat) (hF : SizedOK F) : SizedOK (F + 1) := by
 intro g off cap l w z h hl hc hb hz
 have H := hide h
 have HF := hide hF
 have HB := hide hb
 clear h hF hb
 go_enter Tryz.func37, Tryz.ntmps37
 go_wp2_with fail
 go_loopw [3, 4] (fun a b wr => ∃ (i f : Nat) (n : Int), a = .int .i64 n ∧ b = .int .i64 i ∧ i ≤ l.length ∧ f ≤ F + 1 ∧ 0 ≤ n ∧ n ≤ 1000000 + i ∧ Only (fun _ => False) w wr ∧ Hid (Ref.sizeS f (l.drop i) n = some z)) (fun _ b _ => l.length - (intOf b).toNat)
 case atStart => exact ⟨0, F + 1, 0, rfl, rfl, by omega, by omega, by omega, by omega, Only.refl _ _, hz⟩
 case round =>
   obtain ⟨i, f, n, rfl, rfl, hi, hf, hn0, hn1, hO, HZ⟩ := hrel
   have HR := hide ((unhide H).only hO)
   obtain ⟨f, rfl⟩ : ∃ f', f = f' + 1 := by
     cases f with
     | zero => exact absurd (unhide HZ) (by simp [Ref.sizeS])
     | succ f => exact ⟨f, rfl⟩
   by_cases hlt : i < l.length
   · have hkc := (unhide HR).kind i hlt
     have hds := Ref.drop_step hlt
     have hkg := Ref.kindAt_get hlt
     by_cases h5 : Ref.kindAt l i = 5
     · have HZ1 : Hid (Ref.sizeS f (l.drop (i + 1)) (n + 1) = some z) := by
         have := unhide HZ
         rw [hds] at this
         unfold Ref.sizeS at this
         rw [if_pos (by rw [← hkg]; exact h5)] at this
         exact this
       have h5' : (Ref.kindAt l i == 5) = true := by simp [h5]
       clear h5 hds hkg
       go_wp2_with fail
       exact ⟨⟨i + 1, f, n + 1, rfl, by go_num, by omega, by omega, by omega, by omega, hO, HZ1⟩, by simp [intOf]; omega⟩
     · have h5' : (Ref.kindAt l i == 5) = false := by simp [h5]
       by_cases h3 : Ref.kindAt l i = 3
       · have h3' : (Ref.kindAt l i == 3) = true := by simp [h3]
         obtain ⟨j, k, hj, hk, HZ1⟩ : ∃ j k, Ref.scan (l.drop (i + 1)) 1 0 = some j ∧ Ref.sizeS f ((l.drop (i + 1)).take j) 0 = some k ∧ Hid (Ref.sizeS f (Ref.behindAtom ((l.drop (i + 1)).drop (j + 1)) k).2 (min 1000000 (n + (Ref.behindAtom ((l.drop (i + 1)).drop (j + 1)) k).1)) = some z) := by
           have := unhide HZ
           rw [hds] at this
           unfold Ref.sizeS at this
           rw [if_neg (by rw [← hkg]; exact h5), if_pos (by rw [← hkg]; exact h3)] at this
           split at this
           · cases this
           · rename_i j hj
             split at this
             · cases this
             · rename_i k hk
               exact ⟨j, k, hj, hk, this⟩
         obtain ⟨hE, hEl⟩ := Ref.atomEnd_group hlt h3 hj
         have hkb := Ref.sizeS_bd f _ 0 k 0 hk (fun u hu => unhide HB u (List.mem_of_mem_drop (List.mem_of_mem_take hu))) (by omega) (by omega) (by omega)
         have HE := hide hE
         rw [List.drop_drop, show i + 1 + (j + 1) = i + j + 2 by omega] at HZ1
         have hci : ¬ cap = i := by omega
         have H3 := hide h3
         have HK := hide hk
         have hkb2 : k ≤ 1010000 := by have : ((l.drop (i + 1)).take j).length ≤ l.length := by (rw [List.length_take, List.length_drop]; omega)
                                       omega
         have hkb0 := hkb.1
         clear hkb hj hk h3
         by_cases hq : i + j + 2 < l.length ∧ Ref.kindAt l (i + j + 2) = 6
         · obtain ⟨hq1, hq6⟩ := hq
           have HC : Hid (∀ w', Only (fun _ => False) w w' → ∃ pa pn pc, w'.cell? ⟨g, off + (i + j + 2) * 6, none⟩ = some (.int .i64 l[i + j + 2].kind) ∧ w'.cell? ⟨g, off + (i + j + 2) * 6 + 1, none⟩ = some (.bool l[i + j + 2].neg) ∧ w'.cell? ⟨g, off + (i + j + 2) * 6 + 2, none⟩ = some (.slice pa pn pc) ∧ w'.cell? ⟨g, off + (i + j + 2) * 6 + 3, none⟩ = some (.int .i64 l[i + j + 2].c) ∧ w'.cell? ⟨g, off + (i + j + 2) * 6 + 4, none⟩ = some (.int .i64 l[i + j + 2].mn) ∧ w'.cell? ⟨g, off + (i + j + 2) * 6 + 5, none⟩ = some (.int .i64 l[i + j + 2].mx)) := fun w' ho => ((unhide H).only ho) (i + j + 2) l[i + j + 2] (List.getElem?_eq_getElem hq1)
           have htb := unhide HB l[i + j + 2] (List.getElem_mem hq1)
           have HN : Hid (Ref.atomNext l i = ((i + j + 2 : Nat) : Int) + 1) := by show _ = _; unfold Ref.atomNext; rw [hE, if_pos ⟨by omega, by rw [Int.toNat_natCast]; exact hq6⟩]
           have HZ2 : Hid (Ref.sizeS f (l.drop (i + j + 2 + 1)) (min 1000000 (n + Ref.qsize k l[i + j + 2].mn l[i + j + 2].mx)) = some z) := by
             have := unhide HZ1
             rw [Ref.behind_some hq1 hq6] at this
             exact this
           have hqn := Ref.qsize_nn (k := k) (t := l[i + j + 2]) (by omega) htb
           unfold Ref.TokB at htb
           generalize l[i + j + 2].mn = mn at *
           generalize l[i + j + 2].mx = mx at *
           generalize l[i + j + 2].neg = ng at *
           generalize l[i + j + 2].c = cc at *
           generalize l[i + j + 2].kind = kd at *
           clear hE hds hkg h5 hq6
           by_cases hmx : mx < 0
           · by_cases hmn : mn = 0
             · have hmn' : (mn == 0) = true := by simp [hmn]
               have HQ : Hid (1 * k + 1 = Ref.qsize k mn mx) := by show _ = _; unfold Ref.qsize; rw [if_pos hmx, if_pos hmn]
               clear hmn
               go_wp2_with (first | (go_at_call 73; refine (atom_any g off cap l i _ (unhide HR) hl hc hlt).mono ?_; rintro e wq ⟨rfl, hwq⟩; have hwr := hwq.symm; subst hwr; clear hwq; rw [unhide HE, unhide HN]) | (go_at_call 74; refine (inner_at (unhide HR) hl hc hEl (unhide H3)).mono ?_; rintro e wq ⟨rfl, hwq⟩; have hwr := hwq.symm; subst hwr; clear hwq) | (go_at_call 37; refine (sized_at (unhide HF) (unhide HR) hl hc hEl (unhide HB) (unhide HK) (by omega)).mono ?_; rintro e w1 ⟨rfl, hO1⟩; obtain ⟨pa, pn, pc, z0, z1, z2, z3, z4, z5⟩ := unhide HC w1 (hO.trans hO1)) | (go_at_call 75; refine (least2_any _ _ _).mono ?_; rintro e wq ⟨rfl, hwq⟩; have hwr := hwq.symm; subst hwr; clear hwq))
               exact ⟨⟨i + j + 2 + 1, f, min 1000000 (n + Ref.qsize k mn mx), by rw [min_if, show n + (k + 1) = n + Ref.qsize k mn mx by (rw [← unhide HQ]; omega)], by go_num, by omega, by omega, by omega, by omega, (hO.trans hO1).alloc _, HZ2⟩, by simp [intOf]; omega⟩
             · have hmn' : (mn == 0) = false := by simp [hmn]
               have HQ : Hid (mn * k + 1 = Ref.qsize k mn mx) := by show _ = _; unfold Ref.qsize; rw [if_pos hmx, if_neg hmn]
               have hpr := prod_in (x := mn) (y := k) (X := 100) (Y := 1010000) (by omega) (by omega) (by omega) (by omega)
               clear hmn
               go_wp2_with (first | (go_at_call 73; refine (atom_any g off cap l i _ (unhide HR) hl hc hlt).mono ?_; rintro e wq ⟨rfl, hwq⟩; have hwr := hwq.symm; subst hwr; clear hwq; rw [unhide HE, unhide HN]) | (go_at_call 74; refine (inner_at (unhide HR) hl hc hEl (unhide H3)).mono ?_; rintro e wq ⟨rfl, hwq⟩; have hwr := hwq.symm; subst hwr; clear hwq) | (go_at_call 37; refine (sized_at (unhide HF) (unhide HR) hl hc hEl (unhide HB) (unhide HK) (by omega)).mono ?_; rintro e w1 ⟨rfl, hO1⟩; obtain ⟨pa, pn, pc, z0, z1, z2, z3, z4, z5⟩ := unhide HC w1 (hO.trans hO1)) | (go_at_call 75; refine (least2_any _ _ _).mono ?_; rintro e wq ⟨rfl, hwq⟩; have hwr := hwq.symm; subst hwr; clear hwq))
               exact ⟨⟨i + j + 2 + 1, f, min 1000000 (n + Ref.qsize k mn mx), by rw [min_if, show n + (mn * k + 1) = n + Ref.qsize k mn mx by rw [← unhide HQ]], by go_num, by omega, by omega, by omega, by omega, (hO.trans hO1).alloc _, HZ2⟩, by simp [intOf]; omega⟩
           · have HQ : Hid (mn * k + (mx - mn) * (k + 1) = Ref.qsize k mn mx) := by show _ = _; unfold Ref.qsize; rw [if_neg hmx]
             have hpr := prod_in (x := mn) (y := k) (X := 100) (Y := 1010000) (by omega) (by omega) (by omega) (by omega)
             have hpr2 := prod_in (x := mx - mn) (y := k + 1) (X := 100) (Y := 1010001) (by omega) (by omega) (by omega) (by omega)
             go_wp2_with (first | (go_at_call 73; refine (atom_any g off cap l i _ (unhide HR) hl hc hlt).mono ?_; rintro e wq ⟨rfl, hwq⟩; have hwr := hwq.symm; subst hwr; clear hwq; rw [unhide HE, unhide HN]) | (go_at_call 74; refine (inner_at (unhide HR) hl hc hEl (unhide H3)).mono ?_; rintro e wq ⟨rfl, hwq⟩; have hwr := hwq.symm; subst hwr; clear hwq) | (go_at_call 37; refine (sized_at (unhide HF) (unhide HR) hl hc hEl (unhide HB) (unhide HK) (by omega)).mono ?_; rintro e w1 ⟨rfl, hO1⟩; obtain ⟨pa, pn, pc, z0, z1, z2, z3, z4, z5⟩ := unhide HC w1 (hO.trans hO1)) | (go_at_call 75; refine (least2_any _ _ _).mono ?_; rintro e wq ⟨rfl, hwq⟩; have hwr := hwq.symm; subst hwr; clear hwq))
             exact ⟨⟨i + j + 2 + 1, f, min 1000000 (n + Ref.qsize k mn mx), by rw [min_if, show n + (mn * k + (mx - mn) * (k + 1)) = n + Ref.qsize k mn mx by rw [← unhide HQ]], by go_num, by omega, by omega, by omega, by omega, (hO.trans hO1).alloc _, HZ2⟩, by simp [intOf]; omega⟩
         · have HN : Hid (Ref.atomNext l i = ((i + j + 2 : Nat) : Int)) := by show _ = _; unfold Ref.atomNext; rw [hE, if_neg (fun hh => hq ⟨by omega, by have := hh.2; rw [Int.toNat_natCast] at this; exact this⟩)]
           have HZ2 : Hid (Ref.sizeS f (l.drop (i + j + 2)) (min 1000000 (n + k)) = some z) := by
             have := unhide HZ1
             rw [Ref.behind_none (Ref.drop_not hq)] at this
             exact this
           clear hE hds hkg h5
           go_wp2_with (first | (go_at_call 73; refine (atom_any g off cap l i _ (unhide HR) hl hc hlt).mono ?_; rintro e wq ⟨rfl, hwq⟩; have hwr := hwq.symm; subst hwr; clear hwq; rw [unhide HE, unhide HN]) | (go_at_call 74; refine (inner_at (unhide HR) hl hc hEl (unhide H3)).mono ?_; rintro e wq ⟨rfl, hwq⟩; have hwr := hwq.symm; subst hwr; clear hwq) | (go_at_call 37; refine (sized_at (unhide HF) (unhide HR) hl hc hEl (unhide HB) (unhide HK) (by omega)).mono ?_; rintro e w1 ⟨rfl, hO1⟩) | (go_at_call 75; refine (least2_any _ _ _).mono ?_; rintro e wq ⟨rfl, hwq⟩; have hwr := hwq.symm; subst hwr; clear hwq))
           exact ⟨⟨i + j + 2, f, min 1000000 (n + k), by rw [min_if], by go_num, by omega, by omega, by omega, by omega, (hO.trans hO1), HZ2⟩, by simp [intOf]; omega⟩
       · have h3' : (Ref.kindAt l i == 3) = false := by simp [h3]
         have hE : Ref.atomEnd l i = ((i + 1 : Nat) : Int) := by unfold Ref.atomEnd; rw [if_neg h3]; omega
         have HE := hide hE
         have HZ1 : Hid (Ref.sizeS f (Ref.behindAtom (l.drop (i + 1)) 1).2 (min 1000000 (n + (Ref.behindAtom (l.drop (i + 1)) 1).1)) = some z) := by
           have := unhide HZ
           rw [hds] at this
           unfold Ref.sizeS at this
           rw [if_neg (by rw [← hkg]; exact h5), if_neg (by rw [← hkg]; exact h3)] at this
           exact this
         by_cases hq : i + 1 < l.length ∧ Ref.kindAt l (i + 1) = 6
         · obtain ⟨hq1, hq6⟩ := hq
           have HC : Hid (∀ w', Only (fun _ => False) w w' → ∃ pa pn pc, w'.cell? ⟨g, off + (i + 1) * 6, none⟩ = some (.int .i64 l[i + 1].kind) ∧ w'.cell? ⟨g, off + (i + 1) * 6 + 1, none⟩ = some (.bool l[i + 1].neg) ∧ w'.cell? ⟨g, off + (i + 1) * 6 + 2, none⟩ = some (.slice pa pn pc) ∧ w'.cell? ⟨g, off + (i + 1) * 6 + 3, none⟩ = some (.int .i64 l[i + 1].c) ∧ w'.cell? ⟨g, off + (i + 1) * 6 + 4, none⟩ = some (.int .i64 l[i + 1].mn) ∧ w'.cell? ⟨g, off + (i + 1) * 6 + 5, none⟩ = some (.int .i64 l[i + 1].mx)) := fun w' ho => ((unhide H).only ho) (i + 1) l[i + 1] (List.getElem?_eq_getElem hq1)
           have htb := unhide HB l[i + 1] (List.getElem_mem hq1)
           have HN : Hid (Ref.atomNext l i = ((i + 1 : Nat) : Int) + 1) := by show _ = _; unfold Ref.atomNext; rw [hE, if_pos ⟨by omega, by rw [Int.toNat_natCast]; exact hq6⟩]
           have HZ2 : Hid (Ref.sizeS f (l.drop (i + 1 + 1)) (min 1000000 (n + Ref.qsize 1 l[i + 1].mn l[i + 1].mx)) = some z) := by
             have := unhide HZ1
             rw [Ref.behind_some hq1 hq6] at this
             exact this
           have hqn := Ref.qsize_nn (k := 1) (t := l[i + 1]) (by omega) htb
           unfold Ref.TokB at htb
           generalize l[i + 1].mn = mn at *
           generalize l[i + 1].mx = mx at *
           generalize l[i + 1].neg = ng at *
           generalize l[i + 1].c = cc at *
           generalize l[i + 1].kind = kd at *
           clear hE hds hkg h5 hq6 h3
           by_cases hmx : mx < 0
           · by_cases hmn : mn = 0
             · have hmn' : (mn == 0) = true := by simp [hmn]
               have HQ : Hid (1 * 1 + 1 = Ref.qsize 1 mn mx) := by show _ = _; unfold Ref.qsize; rw [if_pos hmx, if_pos hmn]
               clear hmn
               obtain ⟨pa, pn, pc, z0, z1, z2, z3, z4, z5⟩ := unhide HC _ hO
               go_wp2_with (first | (go_at_call 73; refine (atom_any g off cap l i _ (unhide HR) hl hc hlt).mono ?_; rintro e wq ⟨rfl, hwq⟩; have hwr := hwq.symm; subst hwr; clear hwq; rw [unhide HE, unhide HN]) | (go_at_call 75; refine (least2_any _ _ _).mono ?_; rintro e wq ⟨rfl, hwq⟩; have hwr := hwq.symm; subst hwr; clear hwq))
               exact ⟨⟨i + 1 + 1, f, min 1000000 (n + Ref.qsize 1 mn mx), by rw [min_if, show n + 2 = n + Ref.qsize 1 mn mx by (rw [← unhide HQ]; omega)], by go_num, by omega, by omega, by omega, by omega, hO.alloc _, HZ2⟩, by simp [intOf]; omega⟩
             · have hmn' : (mn == 0) = false := by simp [hmn]
               have HQ : Hid (mn * 1 + 1 = Ref.qsize 1 mn mx) := by show _ = _; unfold Ref.qsize; rw [if_pos hmx, if_neg hmn]
               have hpr := prod_in (x := mn) (y := 1) (X := 100) (Y := 1010000) (by omega) (by omega) (by omega) (by omega)
               clear hmn
               obtain ⟨pa, pn, pc, z0, z1, z2, z3, z4, z5⟩ := unhide HC _ hO
               go_wp2_with (first | (go_at_call 73; refine (atom_any g off cap l i _ (unhide HR) hl hc hlt).mono ?_; rintro e wq ⟨rfl, hwq⟩; have hwr := hwq.symm; subst hwr; clear hwq; rw [unhide HE, unhide HN]) | (go_at_call 75; refine (least2_any _ _ _).mono ?_; rintro e wq ⟨rfl, hwq⟩; have hwr := hwq.symm; subst hwr; clear hwq))
               exact ⟨⟨i + 1 + 1, f, min 1000000 (n + Ref.qsize 1 mn mx), by rw [min_if, show n + (mn + 1) = n + Ref.qsize 1 mn mx by (rw [← unhide HQ]; omega)], by go_num, by omega, by omega, by omega, by omega, hO.alloc _, HZ2⟩, by simp [intOf]; omega⟩
           · have HQ : Hid (mn * 1 + (mx - mn) * (1 + 1) = Ref.qsize 1 mn mx) := by show _ = _; unfold Ref.qsize; rw [if_neg hmx]
             have hpr := prod_in (x := mn) (y := 1) (X := 100) (Y := 1010000) (by omega) (by omega) (by omega) (by omega)
             have hpr2 := prod_in (x := mx - mn) (y := 1 + 1) (X := 100) (Y := 1010001) (by omega) (by omega) (by omega) (by omega)
             obtain ⟨pa, pn, pc, z0, z1, z2, z3, z4, z5⟩ := unhide HC _ hO
             go_wp2_with (first | (go_at_call 73; refine (atom_any g off cap l i _ (unhide HR) hl hc hlt).mono ?_; rintro e wq ⟨rfl, hwq⟩; have hwr := hwq.symm; subst hwr; clear hwq; rw [unhide HE, unhide HN]) | (go_at_call 75; refine (least2_any _ _ _).mono ?_; rintro e wq ⟨rfl, hwq⟩; have hwr := hwq.symm; subst hwr; clear hwq))
             exact ⟨⟨i + 1 + 1, f, min 1000000 (n + Ref.qsize 1 mn mx), by rw [min_if, show n + (mn + (mx - mn) * 2) = n + Ref.qsize 1 mn mx by (rw [← unhide HQ]; omega)], by go_num, by omega, by omega, by omega, by omega, hO.alloc _, HZ2⟩, by simp [intOf]; omega⟩
         · have HN : Hid (Ref.atomNext l i = ((i + 1 : Nat) : Int)) := by show _ = _; unfold Ref.atomNext; rw [hE, if_neg (fun hh => hq ⟨by omega, by have := hh.2; rw [Int.toNat_natCast] at this; exact this⟩)]
           have HZ2 : Hid (Ref.sizeS f (l.drop (i + 1)) (min 1000000 (n + 1)) = some z) := by
             have := unhide HZ1
             rw [Ref.behind_none (Ref.drop_not hq)] at this
             exact this
           clear hE hds hkg h3 h5
           go_wp2_with (first | (go_at_call 73; refine (atom_any g off cap l i _ (unhide HR) hl hc hlt).mono ?_; rintro e wq ⟨rfl, hwq⟩; have hwr := hwq.symm; subst hwr; clear hwq; rw [unhide HE, unhide HN]) | (go_at_call 75; refine (least2_any _ _ _).mono ?_; rintro e wq ⟨rfl, hwq⟩; have hwr := hwq.symm; subst hwr; clear hwq))
           exact ⟨⟨i + 1, f, min 1000000 (n + 1), by rw [min_if], by go_num, by omega, by omega, by omega, by omega, hO, HZ2⟩, by simp [intOf]; omega⟩
   · have HZ1 : Hid (n = z) := by
       have := unhide HZ
       rw [List.drop_of_length_le (by omega)] at this
       unfold Ref.sizeS at this
       exact Option.some.inj this
     go_wp2_with fail
     go_ret
     rw [unhide HZ1]
     exact ⟨rfl, hO⟩
theorem sized_all : ∀ f, SizedOK f := by
 intro f
 induction f with
 | zero => intro g off cap l w z _ _ _ _ hz; exact absurd hz (by simp [Ref.sizeS])
 | succ f ih => exact sized_step f ih
set_option maxHeartbeats 400000 in
theorem sized_nil (w : World) : Calls Tryz.prog 37 #[.slice none 0 0] w fun x w' => x = .returned (.int .i64 0) ∧ w' = w := by
 go_enter Tryz.func37, Tryz.ntmps37
 go_wp2_with fail
 refine wp_loop_rounds 1 ?_
 rw [rounds_succ]
 go_wp2_with fail
 go_ret
 exact ⟨rfl, rfl⟩
namespace Ref
theorem tokensF_len (s : ByteArray) : ∀ (f : Nat) (l : List Tok) (op : Int) (atom : Bool) (st : St), (tokensF s f l op atom st).1.length ≤ l.length + f
 | 0, l, _, _, _ => by simp [tokensF]
 | f + 1, l, op, atom, st => by
   unfold tokensF
   split
   · split
     · exact Nat.le_trans (tokensF_len s f _ _ _ _) (by simp; omega)
     · split
       · simp
       · exact Nat.le_trans (tokensF_len s f _ _ _ _) (by simp; omega)
   · simp
theorem tokensR_len (s : ByteArray) : (tokensR s).1.length ≤ s.size + 1 := by
 have := tokensF_len s (s.size + 1) [] 0 false ⟨0, 0, 0⟩
 simp only [List.length_nil] at this
 unfold tokensR; omega
theorem charsF_neg (s : ByteArray) : ∀ (f p : Nat) (acc : List (Int × Int)), (charsF s f p acc).2 < 0 → (charsF s f p acc).2 = -1
 | 0, p, acc => by simp [charsF]
 | f + 1, p, acc => by
   intro h
   by_cases hp : p < s.size
   · cases h1 : oneF s p with
     | none => rw [charsF_bad hp h1] at h; simp only [] at h; omega
     | some nc =>
       obtain ⟨n, c⟩ := nc
       rw [charsF_good hp h1] at h ⊢
       exact charsF_neg s f _ _ h
   · rw [charsF_end hp]
theorem good_of_chars {s : ByteArray} (h : (charsR s).2 < 0) : Good s 0 := charsF_good_iff s (s.size + 1) 0 [] (by omega) (charsF_neg s _ _ _ h) (by omega)
end Ref
theorem toksOK_cells {w : World} {base : Nat} : ∀ (l : List Tok) (cs : List Value), ToksOK w base l cs → ∀ (j : Nat) (t : Tok), l[j]? = some t → ∃ pa pn pc,
   cs[j * 6]? = some (.int .i64 t.kind) ∧ cs[j * 6 + 1]? = some (.bool t.neg) ∧ cs[j * 6 + 2]? = some (.slice pa pn pc) ∧ cs[j * 6 + 3]? = some (.int .i64 t.c) ∧ cs[j * 6 + 4]? = some (.int .i64 t.mn) ∧ cs[j * 6 + 5]? = some (.int .i64 t.mx)
 | [], _, _, j, t, hj => by simp at hj
 | u :: us, a0 :: a1 :: a2 :: a3 :: a4 :: a5 :: vs, h, 0, t, hj => by
   simp only [List.getElem?_cons_zero, Option.some.injEq] at hj
   subst hj
   obtain ⟨⟨rfl, rfl, rfl, rfl, rfl⟩, ⟨xs, hp, _⟩, _⟩ := h
   obtain ⟨pa, pn, pc, rfl⟩ := own_slice hp
   exact ⟨pa, pn, pc, rfl, rfl, rfl, rfl, rfl, rfl⟩
 | u :: us, a0 :: a1 :: a2 :: a3 :: a4 :: a5 :: vs, h, j + 1, t, hj => by
   obtain ⟨pa, pn, pc, z⟩ := toksOK_cells us vs h.2.2 j t (by simpa using hj)
   exact ⟨pa, pn, pc, by
     rw [show (j + 1) * 6 = j * 6 + 6 by omega]
     exact z⟩
 | _ :: _, [], h, _, _, _ => absurd h id
 | _ :: _, [_], h, _, _, _ => absurd h id
 | _ :: _, [_, _], h, _, _, _ => absurd h id
 | _ :: _, [_, _, _], h, _, _, _ => absurd h id
 | _ :: _, [_, _, _, _], h, _, _, _ => absurd h id
 | _ :: _, [_, _, _, _, _], h, _, _, _ => absurd h id
theorem toks_row {w : World} {base : Nat} {v : Value} {l : List Tok} (h : ToksAt w base v l) : (v = .slice none 0 0 ∧ l = []) ∨ ∃ g cap, v = .slice (some ⟨g, 0, none⟩) l.length cap ∧ base ≤ g ∧ l.length ≤ cap ∧ TokRow w g 0 l := by
 obtain ⟨cs, ho, hk⟩ := h
 obtain ⟨h1, h2⟩ := ho
 rcases h2 with ⟨rfl, h0⟩ | ⟨g, cap, cur, rfl, hb, hg, hc, hm, hs, ht⟩
 · exact .inl ⟨rfl, List.eq_nil_of_length_eq_zero h0⟩
 · refine .inr ⟨g, cap, rfl, hb, hc, ?_⟩
   intro j t hj
   obtain ⟨pa, pn, pc, z0, z1, z2, z3, z4, z5⟩ := toksOK_cells l cs hk j t hj
   have hjl : j < l.length := by
     by_cases hlt : j < l.length
     · exact hlt
     · rw [List.getElem?_eq_none (by omega)] at hj; cases hj
   have how : w.ownsRow base 178 6 (.slice (some ⟨g, 0, none⟩) l.length cap) l.length cs := ⟨h1, .inr ⟨g, cap, cur, rfl, hb, hg, hc, hm, hs, ht⟩⟩
   exact ⟨pa, pn, pc, by rw [Nat.zero_add, how.cellAt _ (by omega)]; exact z0, by rw [Nat.zero_add, how.cellAt _ (by omega)]; exact z1, by rw [Nat.zero_add, how.cellAt _ (by omega)]; exact z2, by rw [Nat.zero_add, how.cellAt _ (by omega)]; exact z3, by rw [Nat.zero_add, how.cellAt _ (by omega)]; exact z4, by rw [Nat.zero_add, how.cellAt _ (by omega)]; exact z5⟩
theorem sized_toks {w : World} {base : Nat} {v : Value} {l : List Tok} {z : Int} (h : ToksAt w base v l) (hl : l.length ≤ 1000) (hb : ∀ t ∈ l, Ref.TokB t) (hz : Ref.SizeIs l 0 z) :
   Calls Tryz.prog 37 #[v] w fun x w' => x = .returned (.int .i64 z) ∧ Only (fun _ => False) w w' := by
 obtain ⟨f, hf⟩ := hz
 rcases toks_row h with ⟨rfl, rfl⟩ | ⟨g, cap, rfl, _, hc, hr⟩
 · have : z = 0 := by
     cases f with
     | zero => simp [Ref.sizeS] at hf
     | succ f => unfold Ref.sizeS at hf; exact (Option.some.inj hf).symm
   subst this
   exact (sized_nil w).mono (by rintro e w' ⟨rfl, rfl⟩; exact ⟨rfl, Only.refl _ _⟩)
 · exact sized_all f g 0 cap l w z hr hl hc hb hf
set_option maxHeartbeats 800000 in
theorem rcompile_long (s : ByteArray) (w : World) (hs : 200 < s.size) :
   Calls Tryz.prog 17 #[.string s] w fun x w' => x = .returned (.tuple #[.pointer none, .int .i64 2, .int .i64 200]) ∧ w' = w := by
 go_enter Tryz.func17, Tryz.ntmps17
 go_wp2_with fail
 go_ret3
 exact ⟨rfl, rfl⟩
set_option maxHeartbeats 800000 in
theorem rcompile_text (s : ByteArray) (w : World) (hs : s.size ≤ 200) (hc : 0 ≤ (Ref.charsR s).2) :
   Calls Tryz.prog 17 #[.string s] w fun x w' => x = .returned (.tuple #[.pointer none, .int .i64 1, .int .i64 (Ref.charsR s).2]) ∧ Only (fun _ => False) w w' := by
 generalize hA : (Ref.charsR s).2 = A at *
 go_enter Tryz.func17, Tryz.ntmps17
 go_wp2_with (go_at_call 35; refine (chars_any s _ (by omega)).mono ?_; rintro e w1 ⟨v, rfl, hv, hO1⟩; rw [hA]; obtain ⟨pa, pn, pc, rfl⟩ := own_slice hv)
 go_ret3
 exact ⟨rfl, hO1⟩
set_option maxHeartbeats 800000 in
theorem rcompile_bad (s : ByteArray) (w : World) (hs : s.size ≤ 200) (hc : (Ref.charsR s).2 < 0) (he : (Ref.tokensR s).2.1 ≠ 0) :
   Calls Tryz.prog 17 #[.string s] w fun x w' => x = .returned (.tuple #[.pointer none, .int .i64 (Ref.tokensR s).2.1, .int .i64 (Ref.tokensR s).2.2]) ∧ Only (fun _ => False) w w' := by
 have HG := hide (Ref.good_of_chars hc)
 generalize hA : (Ref.charsR s).2 = A at *
 generalize hE : (Ref.tokensR s).2.1 = E at *
 generalize hP : (Ref.tokensR s).2.2 = P at *
 have he' : (E == 0) = false := by simp [he]
 go_enter Tryz.func17, Tryz.ntmps17
 go_wp2_with (first | (go_at_call 35; refine (chars_any s _ (by omega)).mono ?_; rintro e w1 ⟨v, rfl, hv, hO1⟩; rw [hA]; obtain ⟨pa, pn, pc, rfl⟩ := own_slice hv) | (go_at_call 36; refine (tokens_any s _ (by omega) (unhide HG)).mono ?_; rintro e w2 ⟨v2, rfl, ⟨cs2, hv2, hk2⟩, hO2⟩; rw [hE, hP]; obtain ⟨qa, qn, qc, rfl⟩ := own_slice hv2))
 go_ret3
 exact ⟨rfl, hO1.trans hO2⟩
set_option maxHeartbeats 800000 in
theorem rcompile_big (s : ByteArray) (w : World) (z : Int) (hs : s.size ≤ 200) (hc : (Ref.charsR s).2 < 0) (he : (Ref.tokensR s).2.1 = 0) (hb : ∀ t ∈ (Ref.tokensR s).1, Ref.TokB t) (hz : Ref.SizeIs (Ref.tokensR s).1 0 z) (h0 : 300 ≤ z) (h1 : z ≤ 10000000) :
   Calls Tryz.prog 17 #[.string s] w fun x w' => x = .returned (.tuple #[.pointer none, .int .i64 8, .int .i64 0]) ∧ Only (fun _ => False) w w' := by
 have HG := hide (Ref.good_of_chars hc)
 have HB := hide hb
 have HZ := hide hz
 have HL := hide (Ref.tokensR_len s)
 clear hb hz
 generalize hA : (Ref.charsR s).2 = A at *
 generalize hP : (Ref.tokensR s).2.2 = P at *
 generalize hT : (Ref.tokensR s).1 = ts at *
 go_enter Tryz.func17, Tryz.ntmps17
 go_wp2_with (first | (go_at_call 35; refine (chars_any s _ (by omega)).mono ?_; rintro e w1 ⟨v, rfl, hv, hO1⟩; rw [hA]; obtain ⟨pa, pn, pc, rfl⟩ := own_slice hv) | (go_at_call 36; refine (tokens_any s _ (by omega) (unhide HG)).mono ?_; rintro e w2 ⟨v2, rfl, hv2, hO2⟩; rw [he, hP]; rw [hT] at hv2; obtain ⟨qa, qn, qc, rfl⟩ := own_slice hv2.choose_spec.1; have HV2 := hide hv2; clear hv2) | (go_at_call 37; refine (sized_toks (unhide HV2) (by have := unhide HL; omega) (unhide HB) (unhide HZ)).mono ?_; rintro e w3 ⟨rfl, hO3⟩))
 go_ret3
 exact ⟨rfl, (hO1.trans hO2).trans hO3⟩
set_option maxHeartbeats 800000 in
theorem rcompile_ok (s : ByteArray) (w : World) (z : Int) (hs : s.size ≤ 200) (hc : (Ref.charsR s).2 < 0) (he : (Ref.tokensR s).2.1 = 0) (hb : ∀ t ∈ (Ref.tokensR s).1, Ref.TokB t) (hz : Ref.SizeIs (Ref.tokensR s).1 0 z) (h0 : z < 300) (h1 : 0 ≤ z) :
   Calls Tryz.prog 17 #[.string s] w fun x w' => ∃ g, x = .returned (.tuple #[.pointer (some ⟨g, 0, none⟩), .int .i64 0, .int .i64 0]) ∧ Only (fun _ => False) w w' ∧ w.heap.size ≤ g ∧ w'.cell? ⟨g, 1, none⟩ = some (.int .i64 (z + 1)) := by
 have HG := hide (Ref.good_of_chars hc)
 have HB := hide hb
 have HZ := hide hz
 have HL := hide (Ref.tokensR_len s)
 clear hb hz
 generalize hA : (Ref.charsR s).2 = A at *
 generalize hP : (Ref.tokensR s).2.2 = P at *
 generalize hT : (Ref.tokensR s).1 = ts at *
 go_enter Tryz.func17, Tryz.ntmps17
 go_wp2_with (first | (go_at_call 35; refine (chars_any s _ (by omega)).mono ?_; rintro e w1 ⟨v, rfl, hv, hO1⟩; rw [hA]; obtain ⟨pa, pn, pc, rfl⟩ := own_slice hv) | (go_at_call 36; refine (tokens_any s _ (by omega) (unhide HG)).mono ?_; rintro e w2 ⟨v2, rfl, hv2, hO2⟩; rw [he, hP]; rw [hT] at hv2; obtain ⟨qa, qn, qc, rfl⟩ := own_slice hv2.choose_spec.1; have HV2 := hide hv2; clear hv2) | (go_at_call 37; refine (sized_toks (unhide HV2) (by have := unhide HL; omega) (unhide HB) (unhide HZ)).mono ?_; rintro e w3 ⟨rfl, hO3⟩))
 go_ret3
 exact ⟨_, rfl, ((hO1.trans hO2).trans hO3).alloc _, ((hO1.trans hO2).trans hO3).size, new_cell _ _ rfl _ _ 1 _ rfl⟩
theorem Only.putObj {P : Nat → Prop} {a w : World} (h : Only P a w) (l : Nat) (o : Obj) (hp : P l ∨ a.heap.size ≤ l) : Only P a (w.putObj l o) :=
 ⟨h.os, h.tape, h.output, Nat.le_trans h.size (by simp [World.putObj]), fun k hk hn => (World.putObj_heap_other (by
   rintro rfl
   rcases hp with hp | hp
   · exact hn hp
   · omega)).trans (h.block k hk hn)⟩
def strB (A : World) (k : Nat) : Prop := ∃ s, A.cell? ⟨k, 0, none⟩ = some (.string s)
theorem strB_cells {A : World} {k : Nat} {o : Obj} (h : A.heap[k]? = some o) (ho : o.isCells = false) : ¬ strB A k := by
 rintro ⟨s, hs⟩
 unfold World.cell? at hs
 rw [h] at hs
 cases o with
 | cells c T f => simp [Obj.isCells] at ho
 | _ => simp at hs
structure KeepT (W W' : World) : Prop where
 size : W.heap.size ≤ W'.heap.size
 same : ∀ (k : Nat), strB W k → W'.heap[k]? = W.heap[k]?
theorem KeepT.trans {A B C : World} (h : KeepT A B) (k : KeepT B C) : KeepT A C := ⟨Nat.le_trans h.size k.size, fun i hi => (k.same i (by
 obtain ⟨s, hs⟩ := hi
 exact ⟨s, (World.cell?_of_block (w := A) (h.same i ⟨s, hs⟩)).trans hs⟩)).trans (h.same i hi)⟩
theorem KeepT.putObj (W : World) (l : Nat) (o o' : Obj) (ho : W.heap[l]? = some o) (hc : o.isCells = false) : KeepT W (W.putObj l o') :=
 ⟨by simp [World.putObj], fun k hk => World.putObj_heap_other (by
   rintro rfl
   exact strB_cells ho hc hk)⟩
def SeqT {α : Type} (F : Fence) (n : Nat) (P : Program) (gf : Nat) (lb : Array Value) (encs : α → Array Value) (xs : List α) (w0 : World) : Prop :=
 ∀ (l : Nat) (J : List α → World → Prop) (W : World), Only (fun _ => False) w0 W →
   (∀ pre A A', J pre A → Only (fun k => W.heap.size ≤ k ∧ strB A k) A A' → J pre A') →
   (∀ pre x A, J pre A → (pre ++ [x]) <+: xs → YieldAt F (n - 1) P l (encs x) A fun e A' => e = .returned (.bool true) ∧ J (pre ++ [x]) A' ∧ KeepT A A') →
   J [] W → CallsIn F n P gf (#[.func (.yield l) #[] #[]] ++ lb) W fun e W' => (∃ v, e = .returned v) ∧ J xs W'
def goesPost {α : Type} (B : Nat) (I : List α → World → Prop) (xs : List α) (W : World) : Exit → Act → World → Prop
 | .normal, _, W' => KeepsFrom B W W' ∧ KeepT W W' ∧ I xs W'
 | _, _, _ => False
variable {F : Fence} {n : Nat} {P : Program}
theorem wpIn_rangeT {α : Type} {g : Operand} {ps : Array Tmp} {assign body : Code} {Q : Exit → Act → World → Prop} {a : Act} {w : World}
   (hro : F.round = none) (h1 : 1 ≤ n) {gf : Nat} {lb : Array Value} (hg : a.eval g = .func (.func gf) #[] lb) (hFg : F.fn gf) (eg : ∀ args w, (callFunc gf args).run P w = .ok (.enter gf args) w)
   {encs : α → Array Value} {xs : List α} (hseq : SeqT F (n - 1) P gf lb encs xs w) (hps : ∀ x, (encs x).size = ps.size)
   (I : List α → World → Prop)
   (hI : ∀ pre A A', I pre A → Only (fun k => w.heap.size ≤ k ∧ (strB A k ∨ ∃ o, A.heap[k]? = some o ∧ o.isCells = false)) A A' → I pre A')
   (h0 : I [] w) (a₁ : α → Act)
   (hassign : ∀ (l : Nat) (x : α) (W : World) (K : Act → World → Prop), K (a₁ x) W →
     assign.wpIn (F.inRound l) (n - 1 - 1) P (Exit.then K (fun _ _ _ => False)) { tmps := (ps.zip (encs x)).foldl (fun t (p, v) => t.setIfInBounds p v) a.tmps, defers := [] } W)
   (hbody : ∀ (l : Nat) (pre : List α) (x : α) (W : World), I pre W → (pre ++ [x]) <+: xs → body.wpIn (F.inRound l) (n - 1 - 1) P (goesPost w.heap.size I (pre ++ [x]) W) (a₁ x) W)
   (hdone : ∀ (D : Nat) (W : World), w.heap.size ≤ D → I xs W → W.heap[D]? = some (.deferred (some [])) → Q .normal { a with defers := { target := .collected D, args := #[] } :: a.defers } W) :
   (Code.rangeFunc g ps assign body).wpIn F n P Q a w := by
 refine wpIn_rangeFunc ?_
 intro fn hfn
 rw [hro]
 obtain ⟨rec, hrec⟩ : ∃ rec : LoopState → Loop, rec = fun st => { state := st, pending := none, fn, tmps := a.tmps, params := ps, assign, body, defers := w.heap.size } := ⟨_, rfl⟩
 obtain ⟨V, hV⟩ : ∃ V, (w.alloc (.deferred (some []))).alloc (.loop (rec .ready)) = V := ⟨_, rfl⟩
 have hO : Only (fun _ => False) w V := by rw [← hV]; exact ((Only.refl _ w).alloc _).alloc _
 have hsz : V.heap.size = w.heap.size + 1 + 1 := by rw [← hV]; simp
 have hL1 : V.heap[w.heap.size + 1]? = some (.loop (rec .ready)) := by
   rw [← hV]; have := World.alloc_heap_new (w.alloc (.deferred (some []))) (.loop (rec .ready)); rwa [World.size_alloc] at this
 have hD1 : V.heap[w.heap.size]? = some (.deferred (some [])) := by
   rw [← hV]; exact (Below.heap_alloc _ _ _ (by simp)).trans (World.alloc_heap_new w _)
 refine ⟨w.heap.size + 1, [{ target := .collected w.heap.size, args := #[] }], V, { target := .fn (.func gf) lb, args := #[.func (.yield (w.heap.size + 1)) #[] #[]] }, V, gf,
   #[.func (.yield (w.heap.size + 1)) #[] #[]] ++ lb, V, ?_, ?_, ?_, ?_, fun _ => h1, ?_⟩
 · rw [← hV, hrec]; exact run_enterLoop_outer _ _ _ _ _
 · simp only [resolve, hg]
   simp [go_sem]
 · intro f' hf'; simp [Target.leads] at hf'; subst hf'; exact hFg
 · simp [invoke, go_sem, eg]
 · have put : ∀ pre A o o', I pre A → A.heap[w.heap.size + 1]? = some o → o.isCells = false → I pre (A.putObj (w.heap.size + 1) o') := fun pre A o o' hi ho hc =>
     hI pre A _ hi ((Only.refl _ A).putObj _ _ (.inl ⟨by omega, .inr ⟨o, ho, hc⟩⟩))
   refine (hseq (w.heap.size + 1) (fun pre W => I pre W ∧ W.heap[w.heap.size + 1]? = some (.loop (rec .ready)) ∧ W.heap[w.heap.size]? = some (.deferred (some []))) V hO ?_ ?_ ⟨hI _ _ _ h0 (hO.mono (fun _ _ f => f.elim)), hL1, hD1⟩).mono ?_
   · rintro pre A A' ⟨hi, hl, hd⟩ hA
     have lt : ∀ k o, A.heap[k]? = some o → k < V.heap.size → A'.heap[k]? = some o := fun k o hk hlt => (hA.block k (Array.getElem?_eq_some_iff.1 hk).1 (fun hp => by omega)).trans hk
     exact ⟨hI pre A A' hi (hA.mono (fun k hk hp => ⟨by omega, .inl hp.2⟩)), lt _ _ hl (by omega), lt _ _ hd (by omega)⟩
   · rintro pre x W ⟨hi, hl, hd⟩ hpre
     have hlt : w.heap.size + 1 < W.heap.size := (Array.getElem?_eq_some_iff.1 hl).1
     have hy := run_yield (P := P) (args := encs x) hl (by rw [hrec]; exact hps x)
     rw [hrec] at hy
     refine ⟨fn, _, assign, body, hy, roundIn_of_wpIn hfn (hassign _ x W _ ⟨_, run_beginRound hl (by rw [hrec]), ?_⟩)⟩
     have hl2 : (W.putObj (w.heap.size + 1) (.loop { rec .ready with state := .busy })).heap[w.heap.size + 1]? = some (.loop { rec .ready with state := .busy }) := World.putObj_heap_same hlt
     have hd2 : (W.putObj (w.heap.size + 1) (.loop { rec .ready with state := .busy })).heap[w.heap.size]? = some (.deferred (some [])) := (World.putObj_heap_other (by omega)).trans hd
     have hk2 : KeepT W (W.putObj (w.heap.size + 1) (.loop { rec .ready with state := .busy })) := KeepT.putObj _ _ _ _ hl rfl
     refine wpIn_mono (hbody _ pre x _ (put _ _ _ _ hi hl rfl) hpre) ?_
     rintro e a3 W3 hp
     cases e with
     | normal =>
       obtain ⟨hk3, hkt3, hi3⟩ := hp
       have hl3 := hk3.same _ _ (by omega) hl2 rfl
       have hd3 := hk3.same _ _ (Nat.le_refl _) hd2 rfl
       have hr := run_endRound (P := P) none hl3
       refine ⟨_, _, hr, rfl, ⟨put _ _ _ _ hi3 hl3 rfl, ?_, (World.putObj_heap_other (by omega)).trans hd3⟩, (hk2.trans hkt3).trans (KeepT.putObj _ _ _ _ hl3 rfl)⟩
       rw [World.putObj_heap_same (Array.getElem?_eq_some_iff.1 hl3).1, hrec]
       rfl
     | ret => exact hp.elim
     | exit id => exact hp.elim
     | goto t => exact hp.elim
     | panic ch => exact hp.elim
     | outgrown => exact hp.elim
   · rintro e W2 ⟨⟨v, rfl⟩, hi, hl, hd⟩
     have he := run_endLoop (P := P) hl (by rw [hrec]; simp)
     refine ⟨none, _, he.trans (by rw [hrec]), ?_⟩
     exact hdone _ _ (Nat.le_refl _) (put _ _ _ _ hi hl rfl) ((World.putObj_heap_other (by omega)).trans hd)
end Go.Proofs.YtnagphodmfejiaaGreatDoor
