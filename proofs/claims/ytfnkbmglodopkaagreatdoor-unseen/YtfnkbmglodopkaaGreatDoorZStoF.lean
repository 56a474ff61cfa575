/- The store's Find. -/
import Derived.Test.YtfnkbmglodopkaaGreatDoorZMapAStoE
namespace Go.Proofs.YtfnkbmglodopkaaGreatDoor
section
open Go.RowKit
open Sm (Stp Tree)
set_option maxHeartbeats 8000000
set_option maxRecDepth 100000
theorem Only.laterO {P Q : Nat → Prop} {a w w' : World} (h : Only P a w) (k : Only Q w w') (hq : ∀ i, i < a.heap.size → Q i → P i) : Only P a w' :=
 ⟨k.os.trans h.os, k.tape.trans h.tape, k.output.trans h.output, Nat.le_trans h.size k.size, fun j hj hn => (k.block j (Nat.lt_of_lt_of_le hj h.size) (fun q => hn (hq j hj q))).trans (h.block j hj hn)⟩
theorem LetSl.keepP {P : Nat → Prop} {w w' : World} {v : Value} {L : List (Int × Int)} (h : LetSl w v L) (k : Only P w w') (hn : ∀ g, v.ownBlock = some g → ¬ P g) : LetSl w' v L := by
 rcases h with h | ⟨g, cap, h1, h2, h3⟩
 · exact .inl h
 · exact .inr ⟨g, cap, h1, h2, h3.keep k (hn g (by rw [h1]; rfl))⟩
structure Seek (w1 wr : World) (A O : Nat → Prop) (sb pb mb most : Nat) (N : List Stp) (st : Nat) (W : Int → Bool) (cs : List Int) (D : Nat → Prop) (s : Fnd.St) (i : Nat) (O' D' : Nat → Prop) (es : List Ent) (sv : Value) : Prop where
 sto : Sto wr O' D' sb pb mb most N (Leads N st W cs) es sv
 env : Env wr A O' pb N st W cs
 at' : ∃ e, es[i]? = some e ∧ e.s = s
 len : es.length ≤ most
 oo : ∀ g, O' g → O g ∨ w1.heap.size ≤ g
 dd : ∀ g, D' g → D g ∨ w1.heap.size ≤ g
 only : Only O w1 wr
theorem Seek.young {w1 wr w' : World} {A O D O' D' : Nat → Prop} {sb pb mb most st i : Nat} {N : List Stp} {W : Int → Bool} {cs : List Int} {s : Fnd.St} {es : List Ent} {sv : Value} (h : Seek w1 wr A O sb pb mb most N st W cs D s i O' D' es sv) (k : Only (fun _ => False) wr w') : Seek w1 w' A O sb pb mb most N st W cs D s i O' D' es sv :=
 ⟨h.sto.young k, h.env.young k, h.at', h.len, h.oo, h.dd, h.only.laterO k (fun _ _ f => f.elim)⟩
theorem Leaves.only {w w' : World} {O D : Nat → Prop} {sb pb mb most lim : Nat} {N : List Stp} {X : Fnd.St → Nat → Fnd.St → Prop} {s : Fnd.St} {x : Ending} (k : Leaves w w' O D sb pb mb most N X s lim x) : Only O w w' := by
 obtain ⟨j, e, es', sv', O2, D2, _, _, _, _, _, _, _, a7⟩ := k
 exact a7
theorem Seek.back {w w1 wr : World} {A O D O' D' : Nat → Prop} {sb pb mb most st i : Nat} {N : List Stp} {W : Int → Bool} {cs : List Int} {s : Fnd.St} {es : List Ent} {sv : Value} (h : Seek w1 wr A O sb pb mb most N st W cs D s i O' D' es sv) (k : Only (fun _ => False) w w1) : Seek w wr A O sb pb mb most N st W cs D s i O' D' es sv := by
 have hs := k.size
 exact ⟨h.sto, h.env, h.at', h.len, fun g hg => (h.oo g hg).imp_right (fun q => by omega), fun g hg => (h.dd g hg).imp_right (fun q => by omega), (k.mono (fun _ _ f => f.elim)).trans h.only⟩
theorem Leaves.seek {w1 wr w' : World} {A O D O' D' : Nat → Prop} {sb pb mb most st lim : Nat} {N : List Stp} {W : Int → Bool} {cs : List Int} {s' : Fnd.St} {x : Ending} (k : Leaves wr w' O' D' sb pb mb most N (Leads N st W cs) s' lim x) (hV : Env wr A O' pb N st W cs) (oo : ∀ g, O' g → O g ∨ w1.heap.size ≤ g) (dd : ∀ g, D' g → D g ∨ w1.heap.size ≤ g) (only : Only O w1 wr) (hlim : lim ≤ most) :
   ∃ j es' sv' O2 D2, x = .returned (.int .i64 (j : Nat)) ∧ Seek w1 w' A O sb pb mb most N st W cs D s' j O2 D2 es' sv' ∧ es'.length ≤ lim := by
 obtain ⟨j, e, es', sv', O2, D2, rfl, a1, a2, a3, a4, a5, a6, a7⟩ := k
 have hs := only.size
 refine ⟨j, es', sv', O2, D2, rfl, ⟨a3, hV.keep a7 a5, ⟨e, a1, a2⟩, by omega, fun g hg => ?_, fun g hg => ?_, only.laterO a7 (fun g hg q => (oo g q).elim id (fun q => by omega))⟩, a4⟩
 · exact (a5 g hg).elim (oo g) (fun q => .inr (by omega))
 · exact (a6 g hg).elim (dd g) (fun q => .inr (by omega))
theorem Seek.on {w1 wr w' : World} {A O D O' D' : Nat → Prop} {sb pb mb most st i lim : Nat} {N : List Stp} {W : Int → Bool} {cs : List Int} {s s' : Fnd.St} {es : List Ent} {sv : Value} {x : Ending} (h : Seek w1 wr A O sb pb mb most N st W cs D s i O' D' es sv) (k : Leaves wr w' O' D' sb pb mb most N (Leads N st W cs) s' lim x) (hlim : lim ≤ most) :
   ∃ j es' sv' O2 D2, x = .returned (.int .i64 (j : Nat)) ∧ Seek w1 w' A O sb pb mb most N st W cs D s' j O2 D2 es' sv' ∧ es'.length ≤ lim := k.seek h.env h.oo h.dd h.only hlim
theorem snumL (sb pb mb most st : Nat) (A O D : Nat → Prop) (N : List Stp) (W : Int → Bool) (cs : List Int) (es : List Ent) (sv pv : Value) (s : Fnd.St) (V w : World) (hV : Env V A O pb N st W cs) (h : Sto V O D sb pb mb most N (Leads N st W cs) es sv) (k : Only (fun _ => False) V w) (hp : PlSl w (fun g => V.heap.size ≤ g) pv s.ps) (hok : s.OK N) (hl : es.length ≤ 1000) :
   Calls Tryz.prog 87 #[.pointer (some ⟨sb, 0, none⟩), .agg #[pv, .bool s.b, .bool s.w]] w fun x w' => Leaves V w' O D sb pb mb most N (Leads N st W cs) s (es.length + 1) x := by
 refine (snumber_any sb pb mb most O D (fun g => V.heap.size ≤ g ∧ g < w.heap.size) N (Leads N st W cs) es sv pv s w (h.young k) (fun g hg => ⟨fun q => by have := h.olt g q; omega, hg.2⟩) (hp.bound hok.ne) hok hV.prog.at'.len hl (hV.young k).tab).mono ?_
 rintro x w' ⟨j, e, es', sv', O', rfl, a1, a2, a3, a4, _, a6, a7⟩
 have hs := k.size
 refine ⟨j, e, es', sv', O', _, rfl, a1, a2, a3, ?_, fun g hg => (a6 g hg).imp_right (fun q => by omega), fun g hg => hg.imp_right (fun q => q.1), (k.mono (fun _ _ f => f.elim)).trans (a7.mono (fun g _ hg => h.tch hg))⟩
 rcases a4 with rfl | ⟨e', rfl⟩
 · omega
 · simp
theorem sfind_any (sb pb mb most st : Nat) (A O D : Nat → Prop) (N : List Stp) (W : Int → Bool) (cs : List Int) (es : List Ent) (sv tv ev : Value) (L : List (Int × Int)) (ks : List Int) (w : World) (hV : Env w A O pb N st W cs) (h : Sto w O D sb pb mb most N (Leads N st W cs) es sv) (hm1 : 2 ≤ most) (hm2 : most ≤ 64) (hes : es.length ≤ most) (hL : LetSl w tv L) (hLo : ∀ g, tv.ownBlock = some g → ¬ O g ∧ g < w.heap.size) (hLl : L.length ≤ 400) (hE : NumSl w (fun _ => True) ev ks) (hkl : ks.length < 4611686018427387904) :
   Calls Tryz.prog 57 #[.pointer (some ⟨sb, 0, none⟩), tv, ev] w fun x w' => ∃ (r : Bool) (i : Nat) (O' D' : Nat → Prop) (es' : List Ent) (sv' : Value), x = .returned (.bool r) ∧ (r = true ↔ Fnd.hit N (Fnd.run N st W L L.length)) ∧ Seek w w' A O sb pb mb most N st W cs D (Fnd.run N st W L L.length) i O' D' es' sv' := by
 obtain ⟨ta, tc, rfl⟩ := hL.slice
 obtain ⟨ea, ec, rfl⟩ := hE.slice
 have c0 := h.c0
 have HMk := hide (marks_any _ ks L.length _ w hE hkl hLl)
 have H := hide h
 have HV := hide hV
 have HL := hide hL
 have HLo := hide hLo
 clear h hV hL hLo hE
 go_enter Tryz.func57, Tryz.ntmps57
 go_wp2_with (go_at_call 84; refine (unhide HMk).mono ?_; rintro e9 w1 ⟨ga, ms, rfl, hB, hml, hga, hO1⟩; refine unhide ?_)
 refine hide ?_
 have hgl : 0 < L.length → ga < w1.heap.size := fun hp => World.block_lt_of_cell? w1 _ (hB.c 0 _ (List.getElem?_eq_getElem (by omega)))
 have HB := hide hB
 have HO1 := hide hO1
 have HF := hide (full_any sb pb mb most O D N (Leads N st W cs) es sv w1 ((unhide H).young hO1))
 have HFirst : Hid (∀ V, Only O w1 V → Calls Tryz.prog 88 #[.pointer (some ⟨pb, 0, none⟩)] V fun x w' => ∃ sv, x = .returned (.agg #[sv, .bool true, .bool false]) ∧ PlSl w' (fun g => V.heap.size ≤ g) sv [st] ∧ Only (fun _ => False) V w') := fun V k => first_any pb st N W A V (((unhide HV).young (unhide HO1)).keep k (fun g hg => .inl hg)).prog.at'
 clear hB hO1 HMk
 by_cases hf : most ≤ es.length
 · rw [decide_eq_true hf] at HF
   go_wp2_with (first
     | (go_at_call 85; refine (unhide HF).mono ?_; rintro e9 wf ⟨rfl, hOf⟩; have HEm := hide (empty_any sb pb mb most O D N (Leads N st W cs) es sv wf ((unhide H).young ((unhide HO1).trans hOf))); have HOf := hide hOf; clear hOf)
     | (go_at_call 86; refine (unhide HEm).mono ?_; rintro e9 V0 ⟨rfl, h0, hO0⟩; have H0 := hide h0; have HO0 : Hid (Only O w1 V0) := ((unhide HOf).mono (fun _ _ f => f.elim)).trans hO0; have c0' := h0.c0; clear h0 hO0)
     | (go_at_call 88; refine (unhide HFirst V0 (unhide HO0)).mono ?_; rintro e9 w2 ⟨sv1, rfl, hp1, hO2⟩; (obtain ⟨xa, xc, rfl⟩ := hp1.slice); have HNu := hide (snumL sb pb mb most st A O D N W cs _ _ _ (Fnd.fst st) V0 w2 (((unhide HV).young (unhide HO1)).keep (unhide HO0) (fun g hg => .inl hg)) (unhide H0) hO2 hp1 (Fnd.fst_ok (unhide HV).prog.at'.stl) (by first | omega | (simp; done) | (simp; omega))); clear hp1 hO2)
     | (go_at_call 87; refine (unhide HNu).mono ?_; intro e9 w3 hLe; (obtain ⟨j0, es0, sv0, O2, D2, rfl, hSk, _⟩ := hLe.seek (w1 := w1) (O := O) (D := D) (((unhide HV).young (unhide HO1)).keep (unhide HO0) (fun g hg => .inl hg)) (fun g hg => .inl hg) (fun g hg => .inl hg) (unhide HO0) (by first | omega | (simp; done) | (simp; omega))); have HSk := hide hSk; clear hSk hLe HNu))
   go_wp2_with fail
   have hsk := unhide HSk
   go_loopw [8, 28] (fun nv k wr => ∃ (m i : Nat) (O3 D3 : Nat → Prop) (es3 : List Ent) (sv3 : Value), k = .int .i64 m ∧ nv = .int .i64 i ∧ m ≤ L.length ∧ Hid (Seek w1 wr A O sb pb mb most N st W cs D (Fnd.run N st W L m) i O3 D3 es3 sv3)) (fun _ k _ => L.length - (intOf k).toNat)
   case atStart => exact ⟨0, j0, O2, D2, es0, sv0, rfl, rfl, by omega, HSk⟩
   case round =>
     clear HSk hsk
     obtain ⟨m, i, O3, D3, es3, sv3, rfl, rfl, hm, HS⟩ := hrel
     by_cases hlt : m < L.length
     · have hOf : ∀ g, (Value.slice ta L.length tc).ownBlock = some g → ¬ O g := fun g hg => (unhide HLo g hg).1
       obtain ⟨g, cap, x0, hv, hcap, d1, d2⟩ := (((unhide HL).keep (unhide HO1)).keepP (unhide HS).only hOf).get hlt
       simp at hv
       obtain ⟨rfl, rfl⟩ := hv
       have hBr : OwnB wr ga ms := (unhide HB).keep (unhide HS).only (fun q => by have := (unhide H).olt _ q; omega)
       have da := hBr.c m _ (List.getElem?_eq_getElem (by omega))
       have b1 : (0 : Int) ≤ (m : Int) := by omega
       have b2 : (m : Int) < (L.length : Int) := by omega
       have kA : Only (fun _ => False) wr (wr.alloc (.cells #[.int .i64 x0, .int .i32 (Pro.letAt L m)] 156)) := (Only.refl _ _).alloc _
       have da' := cell_kept kA _ _ da (fun f => f)
       have HS9 := hide ((unhide HS).young kA)
       have lc9 : (wr.alloc (.cells #[.int .i64 x0, .int .i32 (Pro.letAt L m)] 156)).cell? ⟨wr.heap.size, 1, none⟩ = some (.int .i32 (Pro.letAt L m)) := new_cell wr _ rfl _ _ 1 _ rfl
       have hno3 : ¬ O3 wr.heap.size := fun q => by have := (unhide HS).sto.olt _ q; omega
       clear da hBr kA hOf
       generalize ms[m] = a at *
       cases a
       · by_cases hfu : most ≤ es3.length
         · have HFu := hide (full_any sb pb mb most O3 D3 N (Leads N st W cs) es3 sv3 (wr.alloc (.cells #[.int .i64 x0, .int .i32 (Pro.letAt L m)] 156)) (unhide HS9).sto)
           rw [decide_eq_true hfu] at HFu
           go_wp2_with (first
             | (go_at_call 85; refine (unhide HFu).mono ?_; rintro e9 w4 ⟨rfl, hO4⟩; have HS4 := hide ((unhide HS9).young hO4); have lc4 := cell_kept hO4 _ _ lc9 (fun f => f); clear hO4)
             | (go_at_call 89; (obtain ⟨e7, he7, hes7⟩ := (unhide HS4).at'); refine (sallBut_any sb pb mb most st i A O3 D3 N W cs es3 sv3 e7 _ (unhide HS4).env (unhide HS4).sto he7).mono ?_; intro e9 w5 hLe; rw [hes7] at hLe; have kq := hLe.only; (obtain ⟨i5, es5, sv5, O5, D5, rfl, hS5, hl5⟩ := (unhide HS4).on hLe (by omega)); have HS5 := hide hS5; have hl6 : es5.length < most := (by omega); have lc5 := cell_kept kq _ _ lc4 hno3; clear hS5 hl5 hLe kq he7 hes7)
             | (go_at_call 90; (obtain ⟨e8, he8, hes8⟩ := (unhide HS5).at'); refine (safter_any sb pb mb most st i5 A O5 D5 N W cs es5 sv5 e8 (Pro.letAt L m) _ (unhide HS5).env (unhide HS5).sto he8 (by omega)).mono ?_; intro e9 w6 hLe; rw [hes8] at hLe; (obtain ⟨i6, es6, sv6, O6, D6, rfl, hS6, _⟩ := (unhide HS5).on hLe (by omega)); have HS6 := hide hS6; clear hS6 hLe he8 hes8))
           exact ⟨⟨m + 1, i6, O6, D6, es6, sv6, by go_num, rfl, by omega, HS6⟩, by simp [intOf]; omega⟩
         · have HFu := hide (full_any sb pb mb most O3 D3 N (Leads N st W cs) es3 sv3 (wr.alloc (.cells #[.int .i64 x0, .int .i32 (Pro.letAt L m)] 156)) (unhide HS9).sto)
           rw [decide_eq_false hfu] at HFu
           go_wp2_with (first
             | (go_at_call 85; refine (unhide HFu).mono ?_; rintro e9 w4 ⟨rfl, hO4⟩; have HS5 := hide ((unhide HS9).young hO4); have lc4 := cell_kept hO4 _ _ lc9 (fun f => f); clear hO4)
             | (go_at_call 90; (obtain ⟨e8, he8, hes8⟩ := (unhide HS5).at'); refine (safter_any sb pb mb most st i A O3 D3 N W cs es3 sv3 e8 (Pro.letAt L m) _ (unhide HS5).env (unhide HS5).sto he8 (by omega)).mono ?_; intro e9 w6 hLe; rw [hes8] at hLe; (obtain ⟨i6, es6, sv6, O6, D6, rfl, hS6, _⟩ := (unhide HS5).on hLe (by omega)); have HS6 := hide hS6; clear hS6 hLe he8 hes8))
           exact ⟨⟨m + 1, i6, O6, D6, es6, sv6, by go_num, rfl, by omega, HS6⟩, by simp [intOf]; omega⟩
       · go_wp2_with (first
             | (go_at_call 89; (obtain ⟨e7, he7, hes7⟩ := (unhide HS9).at'); refine (sallBut_any sb pb mb most st i A O3 D3 N W cs es3 sv3 e7 _ (unhide HS9).env (unhide HS9).sto he7).mono ?_; intro e9 w5 hLe; rw [hes7] at hLe; have kq := hLe.only; (obtain ⟨i5, es5, sv5, O5, D5, rfl, hS5, hl5⟩ := (unhide HS9).on hLe (by omega)); have HS5 := hide hS5; have hl6 : es5.length < most := (by omega); have lc5 := cell_kept kq _ _ lc9 hno3; clear hS5 hl5 hLe kq he7 hes7)
             | (go_at_call 90; (obtain ⟨e8, he8, hes8⟩ := (unhide HS5).at'); refine (safter_any sb pb mb most st i5 A O5 D5 N W cs es5 sv5 e8 (Pro.letAt L m) _ (unhide HS5).env (unhide HS5).sto he8 (by omega)).mono ?_; intro e9 w6 hLe; rw [hes8] at hLe; (obtain ⟨i6, es6, sv6, O6, D6, rfl, hS6, _⟩ := (unhide HS5).on hLe (by omega)); have HS6 := hide hS6; clear hS6 hLe he8 hes8))
         exact ⟨⟨m + 1, i6, O6, D6, es6, sv6, by go_num, rfl, by omega, HS6⟩, by simp [intOf]; omega⟩
     · obtain rfl : m = L.length := by omega
       obtain ⟨e7, he7, hes7⟩ := (unhide HS).at'
       obtain ⟨g7, cap7, rfl, r0, r1, r2, r3⟩ := (unhide HS).sto.get he7
       obtain ⟨_, _, hpl, hok, _⟩ := (unhide HS).sto.ent e7 (List.mem_of_getElem? he7)
       have k0 := (unhide HS).sto.c0
       have k2 := (unhide HS).sto.c2
       have hil : i < es3.length := (List.getElem?_eq_some_iff.1 he7).1
       have b1 : (0 : Int) ≤ (i : Int) := by omega
       have b2 : (i : Int) < (es3.length : Int) := by omega
       obtain ⟨pa, pc, hpe⟩ := hpl.slice
       have HMe : Hid (∀ V, Only (fun _ => False) wr V → Calls Tryz.prog 91 #[.pointer (some ⟨pb, 0, none⟩), .agg #[e7.pv, .bool e7.s.b, .bool e7.s.w]] V fun x w' => ∃ r, x = .returned (.bool r) ∧ (r = true ↔ Fnd.hit N e7.s) ∧ Only (fun _ => False) V w') := fun V hV9 => matchedEnd_any pb st N W e7.pv e7.s A V ((unhide HS).env.prog.at'.keep hV9 (fun _ _ f => f)) (hpl.int.keep hV9) hok
       rw [hpe] at r0 HMe
       have HHe := hide hes7
       clear hpl hok hes7 hpe he7 r3
       go_wp2_with fail
       go_region_with (go_at_call 91; refine (unhide HMe _ (by repeat (first | exact Only.refl _ _ | refine Only.alloc ?_ _ | refine Only.drew ?_ | refine Only.drewN ?_ _))).mono ?_; rintro e9 w9 ⟨r, rfl, hr, hO9⟩; have HR := hide hr; have HO9 : Hid (Only (fun _ => False) wr w9) := Only.trans (by repeat (first | exact Only.refl _ _ | refine Only.alloc ?_ _ | refine Only.drew ?_ | refine Only.drewN ?_ _)) hO9; clear hr hO9)
       all_goals
         go_wp2_with fail
         go_ret
         refine ⟨r, i, O3, D3, es3, _, rfl, ?_, ((unhide HS).young (unhide HO9)).back (unhide HO1)⟩
         rw [← unhide HHe]
         exact unhide HR
 · rw [decide_eq_false hf] at HF
   go_wp2_with (first
     | (go_at_call 85; refine (unhide HF).mono ?_; rintro e9 V0 ⟨rfl, hOf⟩; have H0 := hide ((unhide H).young ((unhide HO1).trans hOf)); have HO0 : Hid (Only O w1 V0) := hOf.mono (fun _ _ f => f.elim); have c0' := (unhide H0).c0; clear hOf)
     | (go_at_call 88; refine (unhide HFirst V0 (unhide HO0)).mono ?_; rintro e9 w2 ⟨sv1, rfl, hp1, hO2⟩; (obtain ⟨xa, xc, rfl⟩ := hp1.slice); have HNu := hide (snumL sb pb mb most st A O D N W cs _ _ _ (Fnd.fst st) V0 w2 (((unhide HV).young (unhide HO1)).keep (unhide HO0) (fun g hg => .inl hg)) (unhide H0) hO2 hp1 (Fnd.fst_ok (unhide HV).prog.at'.stl) (by first | omega | (simp; done) | (simp; omega))); clear hp1 hO2)
     | (go_at_call 87; refine (unhide HNu).mono ?_; intro e9 w3 hLe; (obtain ⟨j0, es0, sv0, O2, D2, rfl, hSk, _⟩ := hLe.seek (w1 := w1) (O := O) (D := D) (((unhide HV).young (unhide HO1)).keep (unhide HO0) (fun g hg => .inl hg)) (fun g hg => .inl hg) (fun g hg => .inl hg) (unhide HO0) (by first | omega | (simp; done) | (simp; omega))); have HSk := hide hSk; clear hSk hLe HNu))
   go_wp2_with fail
   have hsk := unhide HSk
   go_loopw [8, 28] (fun nv k wr => ∃ (m i : Nat) (O3 D3 : Nat → Prop) (es3 : List Ent) (sv3 : Value), k = .int .i64 m ∧ nv = .int .i64 i ∧ m ≤ L.length ∧ Hid (Seek w1 wr A O sb pb mb most N st W cs D (Fnd.run N st W L m) i O3 D3 es3 sv3)) (fun _ k _ => L.length - (intOf k).toNat)
   case atStart => exact ⟨0, j0, O2, D2, es0, sv0, rfl, rfl, by omega, HSk⟩
   case round =>
     clear HSk hsk
     obtain ⟨m, i, O3, D3, es3, sv3, rfl, rfl, hm, HS⟩ := hrel
     by_cases hlt : m < L.length
     · have hOf : ∀ g, (Value.slice ta L.length tc).ownBlock = some g → ¬ O g := fun g hg => (unhide HLo g hg).1
       obtain ⟨g, cap, x0, hv, hcap, d1, d2⟩ := (((unhide HL).keep (unhide HO1)).keepP (unhide HS).only hOf).get hlt
       simp at hv
       obtain ⟨rfl, rfl⟩ := hv
       have hBr : OwnB wr ga ms := (unhide HB).keep (unhide HS).only (fun q => by have := (unhide H).olt _ q; omega)
       have da := hBr.c m _ (List.getElem?_eq_getElem (by omega))
       have b1 : (0 : Int) ≤ (m : Int) := by omega
       have b2 : (m : Int) < (L.length : Int) := by omega
       have kA : Only (fun _ => False) wr (wr.alloc (.cells #[.int .i64 x0, .int .i32 (Pro.letAt L m)] 156)) := (Only.refl _ _).alloc _
       have da' := cell_kept kA _ _ da (fun f => f)
       have HS9 := hide ((unhide HS).young kA)
       have lc9 : (wr.alloc (.cells #[.int .i64 x0, .int .i32 (Pro.letAt L m)] 156)).cell? ⟨wr.heap.size, 1, none⟩ = some (.int .i32 (Pro.letAt L m)) := new_cell wr _ rfl _ _ 1 _ rfl
       have hno3 : ¬ O3 wr.heap.size := fun q => by have := (unhide HS).sto.olt _ q; omega
       clear da hBr kA hOf
       generalize ms[m] = a at *
       cases a
       · by_cases hfu : most ≤ es3.length
         · have HFu := hide (full_any sb pb mb most O3 D3 N (Leads N st W cs) es3 sv3 (wr.alloc (.cells #[.int .i64 x0, .int .i32 (Pro.letAt L m)] 156)) (unhide HS9).sto)
           rw [decide_eq_true hfu] at HFu
           go_wp2_with (first
             | (go_at_call 85; refine (unhide HFu).mono ?_; rintro e9 w4 ⟨rfl, hO4⟩; have HS4 := hide ((unhide HS9).young hO4); have lc4 := cell_kept hO4 _ _ lc9 (fun f => f); clear hO4)
             | (go_at_call 89; (obtain ⟨e7, he7, hes7⟩ := (unhide HS4).at'); refine (sallBut_any sb pb mb most st i A O3 D3 N W cs es3 sv3 e7 _ (unhide HS4).env (unhide HS4).sto he7).mono ?_; intro e9 w5 hLe; rw [hes7] at hLe; have kq := hLe.only; (obtain ⟨i5, es5, sv5, O5, D5, rfl, hS5, hl5⟩ := (unhide HS4).on hLe (by omega)); have HS5 := hide hS5; have hl6 : es5.length < most := (by omega); have lc5 := cell_kept kq _ _ lc4 hno3; clear hS5 hl5 hLe kq he7 hes7)
             | (go_at_call 90; (obtain ⟨e8, he8, hes8⟩ := (unhide HS5).at'); refine (safter_any sb pb mb most st i5 A O5 D5 N W cs es5 sv5 e8 (Pro.letAt L m) _ (unhide HS5).env (unhide HS5).sto he8 (by omega)).mono ?_; intro e9 w6 hLe; rw [hes8] at hLe; (obtain ⟨i6, es6, sv6, O6, D6, rfl, hS6, _⟩ := (unhide HS5).on hLe (by omega)); have HS6 := hide hS6; clear hS6 hLe he8 hes8))
           exact ⟨⟨m + 1, i6, O6, D6, es6, sv6, by go_num, rfl, by omega, HS6⟩, by simp [intOf]; omega⟩
         · have HFu := hide (full_any sb pb mb most O3 D3 N (Leads N st W cs) es3 sv3 (wr.alloc (.cells #[.int .i64 x0, .int .i32 (Pro.letAt L m)] 156)) (unhide HS9).sto)
           rw [decide_eq_false hfu] at HFu
           go_wp2_with (first
             | (go_at_call 85; refine (unhide HFu).mono ?_; rintro e9 w4 ⟨rfl, hO4⟩; have HS5 := hide ((unhide HS9).young hO4); have lc4 := cell_kept hO4 _ _ lc9 (fun f => f); clear hO4)
             | (go_at_call 90; (obtain ⟨e8, he8, hes8⟩ := (unhide HS5).at'); refine (safter_any sb pb mb most st i A O3 D3 N W cs es3 sv3 e8 (Pro.letAt L m) _ (unhide HS5).env (unhide HS5).sto he8 (by omega)).mono ?_; intro e9 w6 hLe; rw [hes8] at hLe; (obtain ⟨i6, es6, sv6, O6, D6, rfl, hS6, _⟩ := (unhide HS5).on hLe (by omega)); have HS6 := hide hS6; clear hS6 hLe he8 hes8))
           exact ⟨⟨m + 1, i6, O6, D6, es6, sv6, by go_num, rfl, by omega, HS6⟩, by simp [intOf]; omega⟩
       · go_wp2_with (first
             | (go_at_call 89; (obtain ⟨e7, he7, hes7⟩ := (unhide HS9).at'); refine (sallBut_any sb pb mb most st i A O3 D3 N W cs es3 sv3 e7 _ (unhide HS9).env (unhide HS9).sto he7).mono ?_; intro e9 w5 hLe; rw [hes7] at hLe; have kq := hLe.only; (obtain ⟨i5, es5, sv5, O5, D5, rfl, hS5, hl5⟩ := (unhide HS9).on hLe (by omega)); have HS5 := hide hS5; have hl6 : es5.length < most := (by omega); have lc5 := cell_kept kq _ _ lc9 hno3; clear hS5 hl5 hLe kq he7 hes7)
             | (go_at_call 90; (obtain ⟨e8, he8, hes8⟩ := (unhide HS5).at'); refine (safter_any sb pb mb most st i5 A O5 D5 N W cs es5 sv5 e8 (Pro.letAt L m) _ (unhide HS5).env (unhide HS5).sto he8 (by omega)).mono ?_; intro e9 w6 hLe; rw [hes8] at hLe; (obtain ⟨i6, es6, sv6, O6, D6, rfl, hS6, _⟩ := (unhide HS5).on hLe (by omega)); have HS6 := hide hS6; clear hS6 hLe he8 hes8))
         exact ⟨⟨m + 1, i6, O6, D6, es6, sv6, by go_num, rfl, by omega, HS6⟩, by simp [intOf]; omega⟩
     · obtain rfl : m = L.length := by omega
       obtain ⟨e7, he7, hes7⟩ := (unhide HS).at'
       obtain ⟨g7, cap7, rfl, r0, r1, r2, r3⟩ := (unhide HS).sto.get he7
       obtain ⟨_, _, hpl, hok, _⟩ := (unhide HS).sto.ent e7 (List.mem_of_getElem? he7)
       have k0 := (unhide HS).sto.c0
       have k2 := (unhide HS).sto.c2
       have hil : i < es3.length := (List.getElem?_eq_some_iff.1 he7).1
       have b1 : (0 : Int) ≤ (i : Int) := by omega
       have b2 : (i : Int) < (es3.length : Int) := by omega
       obtain ⟨pa, pc, hpe⟩ := hpl.slice
       have HMe : Hid (∀ V, Only (fun _ => False) wr V → Calls Tryz.prog 91 #[.pointer (some ⟨pb, 0, none⟩), .agg #[e7.pv, .bool e7.s.b, .bool e7.s.w]] V fun x w' => ∃ r, x = .returned (.bool r) ∧ (r = true ↔ Fnd.hit N e7.s) ∧ Only (fun _ => False) V w') := fun V hV9 => matchedEnd_any pb st N W e7.pv e7.s A V ((unhide HS).env.prog.at'.keep hV9 (fun _ _ f => f)) (hpl.int.keep hV9) hok
       rw [hpe] at r0 HMe
       have HHe := hide hes7
       clear hpl hok hes7 hpe he7 r3
       go_wp2_with fail
       go_region_with (go_at_call 91; refine (unhide HMe _ (by repeat (first | exact Only.refl _ _ | refine Only.alloc ?_ _ | refine Only.drew ?_ | refine Only.drewN ?_ _))).mono ?_; rintro e9 w9 ⟨r, rfl, hr, hO9⟩; have HR := hide hr; have HO9 : Hid (Only (fun _ => False) wr w9) := Only.trans (by repeat (first | exact Only.refl _ _ | refine Only.alloc ?_ _ | refine Only.drew ?_ | refine Only.drewN ?_ _)) hO9; clear hr hO9)
       all_goals
         go_wp2_with fail
         go_ret
         refine ⟨r, i, O3, D3, es3, _, rfl, ?_, ((unhide HS).young (unhide HO9)).back (unhide HO1)⟩
         rw [← unhide HHe]
         exact unhide HR
end
end Go.Proofs.YtfnkbmglodopkaaGreatDoor
