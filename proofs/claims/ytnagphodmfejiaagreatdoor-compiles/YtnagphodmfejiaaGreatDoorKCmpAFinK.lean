/- The program's Compile and Size, over its reader. Of any bytes: what the program's Compile tells beside the document's. The statement's own functions: what is looked at behind each step. The statement's own functions: one step. The statement's own functions: a script of one step. What the listed package-level variables hold as the call begins; the statement's row, and its card. The row's closed facts over the whole program, one by one. The row's closed facts over the whole program, one by one. The row's closed facts over the whole program, one by one. The row's closed facts over the whole program, one by one. The row's closed facts over the whole program, together. -/
import Derived.Test.YtnagphodmfejiaaGreatDoorKErrCSrtB
import Derived.Test.YtnagphodmfejiaaGreatDoorKChEErrB
import Derived.Test.YtnagphodmfejiaaGreatDoorKPrgKPrgM
import Derived.Test.YtnagphodmfejiaaGreatDoorKSemETrI
import Derived.Test.YtnagphodmfejiaaGreatDoorKEqLRefW
import Derived.Test.YtnagphodmfejiaaGreatDoorKRefXRanA
import Derived.Deep.RegionHeld3
import Derived.Test.YtnagphodmfejiaaGreatDoorRows
import Derived.ChangeSame
import Derived.ChangeVars
import Derived.JoinedOf
import Derived.RowKit
import Derived.RowKitTokens
import Derived.LaidLaws
import Derived.LaidHandle
import Derived.LaidSub
import Derived.Stop.Joined
import Derived.KernelRfl
namespace Go.Proofs.YtnagphodmfejiaaGreatDoor
open Go.RowKit
open Sm (Tree capT)
structure Start (w : World) (a : Nat → Addr) : Prop where
 sents : Sents w a
 rows : SentRows w a
 et : w.cell? ⟨10, 0, none⟩ = some (.iface 303 (.agg #[.pointer (some ⟨15, 92, none⟩)]))
 size : 10 ≤ w.heap.size
theorem Start.keep {w w' : World} {a : Nat → Addr} (h : Start w a) (k : Only (fun _ => False) w w') : Start w' a :=
 ⟨h.sents.keep k (fun _ _ f => f), h.rows.keep k, cell_kept k _ _ h.et (fun f => f), Nat.le_trans h.size k.size⟩
set_option maxHeartbeats 2000000 in
set_option maxRecDepth 1000000 in
theorem fplace_any (g : Nat) (p : Int) (w : World) (hE : w.cell? ⟨10, 0, none⟩ = some (.iface 303 (.agg #[.pointer (some ⟨15, 92, none⟩)]))) (h1 : w.cell? ⟨g, 1, none⟩ = some (.int .i64 p)) :
   Calls Tryz.prog 32 #[.iface 140 (.pointer (some ⟨g, 0, none⟩))] w fun e w' => e = .returned (.int .i64 p) ∧ Only (fun _ => False) w w' := by
 have hgl : g < w.heap.size := World.block_lt_of_cell? w ⟨g, 1, none⟩ h1
 have HA := hide (as_set ⟨g, 0, none⟩ ⟨w.heap.size, 0, none⟩ (.pointer none) (w.alloc (.cells #[.pointer none] 140)) (cell_kept ((Only.refl (fun _ => False) w).alloc _) _ _ hE (fun f => f)) (new_cell w _ rfl _ _ 0 _ rfl) (new_frozen w _ rfl _ _ 0))
 have HP : Hid (∀ w1, Only (Mine w.heap.size) (w.alloc (.cells #[.pointer none] 140)) w1 → w1.cell? ⟨g, 1, none⟩ = some (.int .i64 p)) := fun w1 hO =>
   cell_kept hO _ _ (cell_kept ((Only.refl (fun _ => False) w).alloc _) _ _ h1 (fun f => f)) (fun e => by have : g = w.heap.size := e; omega)
 clear hE
 go_enter Tryz.func32, Tryz.ntmps32
 go_wp2_with (go_at_call 58; refine (unhide HA).mono ?_; rintro e w1 ⟨rfl, hc, hO⟩; have h1w := (unhide HP) w1 hO)
 go_ret
 exact ⟨rfl, ((Only.refl (fun _ => False) w).alloc _).later hO (fun i hi => by unfold Mine at hi; omega)⟩
def PatBad (s : ByteArray) (a : Nat → Addr) (k : Nat) (p : Int) (w : World) : Prop :=
 Calls Tryz.prog 30 #[.string s] w fun x w' => ∃ v, x = .returned (.tuple #[.nilIface, v]) ∧ FaultAt w' w.heap.size v (sentV a k) p ∧ Only (fun _ => False) w w'
def PatGood (s : ByteArray) (t : Tree) (v : Int) (w : World) : Prop :=
 Calls Tryz.prog 30 #[.string s] w fun x w' => (∃ T y F, x = .returned (.tuple #[.iface T y, .nilIface]) ∧ PartAt F w' (fun g => w.heap.size ≤ g) (.iface T y) t ∧ capT F t = v) ∧ Only (fun _ => False) w w'
def TreeOK (t : Tree) : Prop := ∀ f, Pro.ShOK f t ∧ Pro.LnOK f t ∧ Pro.AsOK f t
set_option maxHeartbeats 2000000 in
set_option maxRecDepth 1000000 in
theorem compile_no (s : ByteArray) (w : World) (a : Nat → Addr) (k : Nat) (p : Int) (hS : Start w a) (k1 : 1 ≤ k) (k2 : k ≤ 8) (hp : PatBad s a k p w) :
   Calls Tryz.prog 16 #[.string s] w fun x w' => x = .returned (.tuple #[.pointer none, .int .i64 k, .int .i64 p]) ∧ Only (fun _ => False) w w' := by
 have HS := hide hS
 have HP := hide hp
 clear hS hp
 go_enter Tryz.func16, Tryz.ntmps16
 go_wp2_with (first | (go_at_call 30; refine (unhide HP).mono ?_; rintro e w1 ⟨v, rfl, hv, hO1⟩; have HV := hide hv; obtain ⟨g, hg, rfl, f0, f1⟩ := hv; have H0 := hide f0; have H1 := hide f1; clear f0 f1 HV) | (go_at_call 31; refine (fnumber_any g k a _ ((unhide HS).keep hO1).sents ((unhide HS).keep hO1).rows k1 k2 (unhide H0)).mono ?_; rintro e wq ⟨rfl, hwq⟩; have hwr := hwq.symm; subst hwr; clear hwq) | (go_at_call 32; refine (fplace_any g p _ ((unhide HS).keep hO1).et (unhide H1)).mono ?_; rintro e w2 ⟨rfl, hO2⟩))
 go_ret3
 exact ⟨rfl, hO1.trans hO2⟩
theorem ProgAt.mono {A B : Nat → Prop} {w : World} {pb : Nat} {N : List Sm.Stp} {st : Nat} {W : Int → Bool} (h : ProgAt w A pb N st W) (hAB : ∀ g, A g → B g) : ProgAt w B pb N st W := by
 obtain ⟨g, cap, h1, h2, h3, h4⟩ := h.c0
 obtain ⟨sv, h5, h6⟩ := h.c2
 refine ⟨hAB _ h.own, ⟨g, cap, h1, hAB _ h2, h3, fun k s hk => ?_⟩, h.c1, ⟨sv, h5, h6.mono (fun g _ h => hAB g h)⟩, h.len, h.fit, h.stl⟩
 obtain ⟨q0, ⟨x, q1, q2⟩, q3⟩ := h4 k s hk
 exact ⟨q0, ⟨x, q1, q2.mono (fun g _ h => hAB g h)⟩, q3⟩
structure CompAt (w : World) (B g : Nat) (t : Tree) (v : Int) : Prop where
 size : w.cell? ⟨g, 0, none⟩ = some (.int .i64 (min (v + 1) 301))
 prog : ∃ pb F W, w.cell? ⟨g, 1, none⟩ = some (.pointer (some ⟨pb, 0, none⟩)) ∧ ProgAt w (fun k => B ≤ k) pb (Sm.prg F t).2 (Sm.prg F t).1 W ∧ (((Sm.prg F t).2.any askS) = true → W = Cs.shortP 119) ∧ Pro.AsOK F t ∧ Sm.WF F t
theorem CompAt.mono {w : World} {B B' g : Nat} {t : Tree} {v : Int} (h : CompAt w B g t v) (hb : B' ≤ B) : CompAt w B' g t v := by
 obtain ⟨pb, F, W, h1, h2, h3⟩ := h.prog
 exact ⟨h.size, pb, F, W, h1, h2.mono (fun k hk => Nat.le_trans hb hk), h3⟩
theorem CompAt.keep {P : Nat → Prop} {w w' : World} {B g : Nat} {t : Tree} {v : Int} (h : CompAt w B g t v) (k : Only P w w') (hn : ∀ k, B ≤ k → ¬ P k) (hg : B ≤ g) : CompAt w' B g t v := by
 obtain ⟨pb, F, W, h1, h2, h3⟩ := h.prog
 exact ⟨cell_kept k _ _ h.size (hn _ hg), pb, F, W, cell_kept k _ _ h1 (hn _ hg), h2.keep k hn, h3⟩
set_option maxHeartbeats 2000000 in
set_option maxRecDepth 1000000 in
theorem compile_yes (s : ByteArray) (w : World) (t : Tree) (v : Int) (hv : v < 300) (ht : TreeOK t) (hp : PatGood s t v w) :
   Calls Tryz.prog 16 #[.string s] w fun x w' => ∃ g, x = .returned (.tuple #[.pointer (some ⟨g, 0, none⟩), .int .i64 0, .int .i64 0]) ∧ w.heap.size ≤ g ∧ CompAt w' w.heap.size g t v ∧ Only (fun _ => False) w w' := by
 have HP := hide hp
 have HT := hide ht
 clear hp ht
 go_enter Tryz.func16, Tryz.ntmps16
 go_wp2_with (first | (go_at_call 30; refine (unhide HP).mono ?_; rintro e w1 ⟨⟨T, y, F, rfl, hq, hcap⟩, hO1⟩; have HV := hide hq; have Hcap := hide hcap; clear hq hcap) | (go_at_call 33; refine (patternSize_any F _ _ _ v (by have h9 := (unhide HV).size; rw [unhide Hcap] at h9; exact h9)).mono ?_; rintro e w3 ⟨rfl, hO3⟩; have HQ : Hid (PrtOK F w3 w3.heap.size (.iface T y) t) := ⟨PartAt.keep hO3 (fun _ _ f => f) F _ _ (unhide HV) |> PartAt.mono (fun g hg _ => hg) F _ _, (unhide HT F).1, (unhide HT F).2.1⟩) | (go_at_call 34; refine (newP_any F t (.iface T y) _ (unhide HQ) ⟨_, _, rfl⟩ (by have := unhide Hcap; omega)).mono ?_; rintro e w4 ⟨pb, W, rfl, hPr, hW, hO4⟩; have HPr := hide hPr; have HW := hide hW; clear hPr hW))
 go_ret3
 have hs1 := hO1.size
 have hs3 := hO3.size
 have hk : Only (fun _ => False) w4 (w4.alloc (.cells #[.int .i64 (min (v + 1) 301), .pointer (some ⟨pb, 0, none⟩)] 67)) := (Only.refl _ _).alloc _
 refine ⟨_, rfl, by have := hO4.size; omega, ⟨new_cell _ _ rfl _ _ 0 _ rfl, pb, F, W, new_cell _ _ rfl _ _ 1 _ rfl, ?_, unhide HW, (unhide HT F).2.2, (unhide HV).wf⟩, ((hO1.trans hO3).trans hO4).alloc _⟩
 exact ((unhide HPr).keep hk (fun _ _ f => f)).mono (fun k h => by omega)
set_option maxHeartbeats 2000000 in
set_option maxRecDepth 1000000 in
theorem size_any (g : Nat) (z : Int) (w : World) (h0 : w.cell? ⟨g, 0, none⟩ = some (.int .i64 z)) :
   Calls Tryz.prog 8 #[.pointer (some ⟨g, 0, none⟩)] w fun x w' => x = .returned (.int .i64 z) ∧ Only (fun _ => False) w w' := by
 go_enter Tryz.func8, Tryz.ntmps8
 go_wp2_with fail
 go_ret
 exact ⟨rfl, Only.refl _ _⟩
end Go.Proofs.YtnagphodmfejiaaGreatDoor
namespace Go.Proofs.YtnagphodmfejiaaGreatDoor
open Go.RowKit
open Sm (Tree)
def RefBad (s : ByteArray) (k : Nat) (p : Int) : Prop := ∀ w : World, Calls Tryz.prog 17 #[.string s] w fun x w' => x = .returned (.tuple #[.pointer none, .int .i64 k, .int .i64 p]) ∧ Only (fun _ => False) w w'
def RefGood (s : ByteArray) (z : Int) : Prop := ∀ w : World, Calls Tryz.prog 17 #[.string s] w fun x w' => ∃ g, x = .returned (.tuple #[.pointer (some ⟨g, 0, none⟩), .int .i64 0, .int .i64 0]) ∧ Only (fun _ => False) w w' ∧ w.heap.size ≤ g ∧ w'.cell? ⟨g, 1, none⟩ = some (.int .i64 (z + 1))
theorem both_tell (s : ByteArray) :
   (∃ (k : Nat) (p : Int), 1 ≤ k ∧ k ≤ 8 ∧ RefBad s k p ∧ ∀ (w : World) (a : Nat → Addr), Start w a → PatBad s a k p w) ∨
   (∃ (v : Int) (t : Tree), 0 ≤ v ∧ v < 300 ∧ TreeOK t ∧ RefGood s v ∧ ∀ (w : World) (a : Nat → Addr), Start w a → PatGood s t v w) := by
 by_cases hs : s.size ≤ 200
 · by_cases hc : 0 ≤ (Ref.charsR s).2
   · exact .inl ⟨1, (Ref.charsR s).2, by decide, by decide, fun w => rcompile_text s w hs hc, fun w a h => pattern_text s w a h.sents h.size hs hc⟩
   · have hc' : (Ref.charsR s).2 < 0 := by omega
     have hbr : Eqv.Br s (Pro.letM s (s.size + 1) 0) 0 0 := by rw [letM_eq]; exact Eqv.Br.start (Ref.good_of_chars hc')
     obtain ⟨w1, w2⟩ := Eqv.whole_same (by omega) hbr
     generalize ho : Pro.altP (Pro.letM s (s.size + 1) 0) (s.size : Nat) (Pro.deepO (Pro.letM s (s.size + 1) 0) (s.size : Nat) 10) 0 = o at w1 w2
     have hk8 : o.k ≤ 8 := by rw [← ho]; exact Pro.altP_k 0
     by_cases hk : o.k = 0
     · obtain ⟨w3, w4⟩ := w2 hk
       by_cases hn : o.n = (Pro.letM s (s.size + 1) 0).length
       · obtain ⟨ts, ht, hB, hA, _⟩ := w3 hn
         obtain ⟨z, hz0, hz1, hz⟩ := hA.whole
         have e1 : (Ref.tokensR s).1 = ts := by rw [ht]
         have e2 : (Ref.tokensR s).2.1 = 0 := by rw [ht]
         have hzb : z ≤ 10000000 := by
           obtain ⟨fz, hfz⟩ := hz
           have h1 := (Ref.sizeS_bd fz ts 0 z 0 hfz hB.2 (by omega) (by omega) (by omega)).2
           have h2 := Ref.tokensR_len s
           rw [e1] at h2
           omega
         have hin := Pro.altP_in (L := Pro.letM s (s.size + 1) 0) (len := ((s.size : Nat) : Int)) (D := Pro.deepO (Pro.letM s (s.size + 1) 0) ((s.size : Nat) : Int) 10) (Pro.deepO_in 10) 0 (by omega)
         rw [ho] at hin
         have hin3 := hin.2.2 hk
         by_cases hv : o.v < 300
         · have hzv : z = o.v := by omega
           refine .inr ⟨o.v, _, by omega, hv, ?_, fun w => ?_, fun w a h => pattern_okT s w a h.sents h.size hs hc' _ rfl o ho hk hn hv⟩
           · exact fun f => ⟨Pro.whole_sh (letM_fit s _ _) 10 0 f, Pro.whole_ln (by have := Pro.letM_len s (s.size + 1) 0; omega) 10 0 f, Pro.altQ_as (fun n f => Pro.deepT_as 10 n f) 0 f⟩
           rw [← hzv]
           exact rcompile_ok s w z hs hc' e2 (by rw [e1]; exact hB.2) (by rw [e1]; exact hz) (by omega) hz0
         · refine .inl ⟨8, 0, by decide, by decide, fun w => ?_, fun w a h => pattern_big s w a h.sents h.size hs hc' _ rfl o ho hk hn (by omega)⟩
           exact rcompile_big s w z hs hc' e2 (by rw [e1]; exact hB.2) (by rw [e1]; exact hz) (by omega) hzb
       · obtain ⟨l', hl⟩ := w4 hn
         refine .inl ⟨3, Pro.placeAt (Pro.letM s (s.size + 1) 0) (s.size : Nat) o.n, by decide, by decide, fun w => ?_, fun w a h => pattern_over s w a h.sents h.size hs hc' _ rfl o ho hk hn⟩
         have := rcompile_bad s w hs hc' (by rw [hl]; show (3 : Int) ≠ 0; decide)
         rw [hl] at this
         exact this
     · obtain ⟨l', hl⟩ := w1 hk
       refine .inl ⟨o.k, o.p, by omega, hk8, fun w => ?_, fun w a h => pattern_bad s w a h.sents h.size hs hc' _ rfl o ho hk⟩
       have := rcompile_bad s w hs hc' (by rw [hl]; show ((o.k : Nat) : Int) ≠ 0; omega)
       rw [hl] at this
       exact this
 · exact .inl ⟨2, 200, by decide, by decide, fun w => (rcompile_long s w (by omega)).mono (by rintro e w' ⟨rfl, rfl⟩; exact ⟨rfl, Only.refl _ _⟩), fun w a h => pattern_long s w a h.sents (by omega)⟩
end Go.Proofs.YtnagphodmfejiaaGreatDoor
namespace Go.Proofs.YtnagphodmfejiaaGreatDoor
open Go.RowKit
structure LawW (w : World) (b : Nat) (pv : Value) : Prop where
 c0 : w.cell? ⟨b, 0, none⟩ = some pv
 c1 : w.cell? ⟨b, 1, none⟩ = some (.slice none 0 0)
 c2 : w.cell? ⟨b, 2, none⟩ = some (.slice none 0 0)
 c4 : w.cell? ⟨b, 4, none⟩ = some (.slice none 0 0)
 c6 : w.cell? ⟨b, 6, none⟩ = some (.slice none 0 0)
 c7 : w.cell? ⟨b, 7, none⟩ = some (.slice none 0 0)
 c8 : w.cell? ⟨b, 8, none⟩ = some (.slice none 0 0)
 c9 : w.cell? ⟨b, 9, none⟩ = some (.slice none 0 0)
 f0 : w.frozen? ⟨b, 0, none⟩ = false
theorem LawW.lt {w : World} {b : Nat} {pv : Value} (h : LawW w b pv) : b < w.heap.size := World.block_lt_of_cell? w ⟨b, 0, none⟩ h.c0
theorem LawW.keep {P : Nat → Prop} {w w' : World} {b : Nat} {pv : Value} (h : LawW w b pv) (k : Only P w w') (hn : ¬ P b) : LawW w' b pv :=
 ⟨cell_kept k _ _ h.c0 hn, cell_kept k _ _ h.c1 hn, cell_kept k _ _ h.c2 hn, cell_kept k _ _ h.c4 hn, cell_kept k _ _ h.c6 hn, cell_kept k _ _ h.c7 hn, cell_kept k _ _ h.c8 hn, cell_kept k _ _ h.c9 hn, frozen_kept k _ h.lt h.f0 hn⟩
theorem LawW.set {w : World} {b : Nat} {pv : Value} (h : LawW w b pv) (v : Value) : LawW (w.setCell ⟨b, 0, none⟩ v) b v :=
 have o : ∀ (j : Nat) u, j ≠ 0 → w.cell? ⟨b, j, none⟩ = some u → (w.setCell ⟨b, 0, none⟩ v).cell? ⟨b, j, none⟩ = some u := fun j u hj hu => (World.cell?_setCell_other _ _ _ _ (by intro e; exact hj (by have h2 := congrArg Addr.off e; simp only [] at h2; omega))).trans hu
 ⟨World.cell?_setCell_same _ _ _ h.c0, o 1 _ (by decide) h.c1, o 2 _ (by decide) h.c2, o 4 _ (by decide) h.c4, o 6 _ (by decide) h.c6, o 7 _ (by decide) h.c7, o 8 _ (by decide) h.c8, o 9 _ (by decide) h.c9, (frozen_setCell _ _ _ _).trans h.f0⟩
set_option maxHeartbeats 2000000 in
set_option maxRecDepth 1000000 in
theorem kept_any (b : Nat) (pv : Value) (w : World) (h : LawW w b pv) :
   Calls Tryz.prog 7 #[.pointer (some ⟨b, 0, none⟩)] w fun e w' => e = .returned (.bool true) ∧ w' = w := by
 obtain ⟨c0, c1, c2, c4, c6, c7, c8, c9, f0⟩ := h
 clear c0 f0
 go_enter Tryz.func7, Tryz.ntmps7
 go_wp2_with fail
 refine wp_loop_rounds 1 ?_
 rw [rounds_succ]
 go_wp2_with fail
 refine wp_loop_rounds 1 ?_
 rw [rounds_succ]
 go_wp2_with fail
 refine wp_loop_rounds 1 ?_
 rw [rounds_succ]
 go_wp2_with fail
 refine wp_loop_rounds 1 ?_
 rw [rounds_succ]
 go_wp2_with fail
 refine wp_loop_rounds 1 ?_
 rw [rounds_succ]
 go_wp2_with fail
 refine wp_loop_rounds 1 ?_
 rw [rounds_succ]
 go_wp2_with fail
 go_ret
 exact ⟨rfl, rfl⟩
end Go.Proofs.YtnagphodmfejiaaGreatDoor
namespace Go.Proofs.YtnagphodmfejiaaGreatDoor
open Go.RowKit
open Sm (Tree)
set_option maxHeartbeats 2000000 in
set_option maxRecDepth 1000000 in
theorem compiles_no (b : Nat) (s : ByteArray) (k : Nat) (p : Int) (w : World) (a : Nat → Addr) (hS : Start w a) (k1 : 1 ≤ k) (k2 : k ≤ 8) (hr : RefBad s k p) (hp : ∀ (w : World) (a : Nat → Addr), Start w a → PatBad s a k p w) :
   Calls Tryz.prog 10 #[.pointer (some ⟨b, 0, none⟩), .agg #[.int .i64 1, .int .i64 0, .int .i64 0, .int .i64 0, .string s, .slice none 0 0, .slice none 0 0, .slice none 0 0]] w fun e w' => e = .returned (.bool true) ∧ Only (fun _ => False) w w' := by
 have HC : Hid (∀ w1, Only (fun _ => False) w w1 → Calls Tryz.prog 16 #[.string s] w1 fun x w' => x = .returned (.tuple #[.pointer none, .int .i64 k, .int .i64 p]) ∧ Only (fun _ => False) w1 w') := fun w1 h1 => compile_no s w1 a k p (hS.keep h1) k1 k2 (hp w1 a (hS.keep h1))
 have HR := hide hr
 clear hS hp hr
 go_enter Tryz.func10, Tryz.ntmps10
 go_wp2_with (first | (go_at_call 16; refine (unhide HC _ ((Only.refl _ _).alloc _)).mono ?_; rintro e w1 ⟨rfl, hO1⟩; have q4 := cell_kept hO1 ⟨w.heap.size, 4, none⟩ _ (new_cell w _ rfl _ _ 4 _ rfl) (fun f => f)) | (go_at_call 17; refine (unhide HR w1).mono ?_; rintro e w2 ⟨rfl, hO2⟩))
 go_ret
 exact ⟨rfl, (((Only.refl _ _).alloc _).trans hO1).trans hO2⟩
structure OneIn (w : World) (base q : Nat) (t : Tree) (v : Int) : Prop where
 at' : ∃ gx gy, w.cell? ⟨q, 0, none⟩ = some (.pointer (some ⟨gx, 0, none⟩)) ∧ w.cell? ⟨q, 1, none⟩ = some (.pointer (some ⟨gy, 0, none⟩)) ∧ CompAt w base gx t v ∧ w.cell? ⟨gy, 1, none⟩ = some (.int .i64 (v + 1)) ∧ base ≤ gx ∧ base ≤ gy ∧ base ≤ q
set_option maxHeartbeats 2000000 in
set_option maxRecDepth 1000000 in
theorem compiles_yes (b : Nat) (s : ByteArray) (t : Tree) (v : Int) (w : World) (a : Nat → Addr) (hv : v < 300) (ht : TreeOK t) (hS : Start w a) (hr : RefGood s v) (hp : ∀ (w : World) (a : Nat → Addr), Start w a → PatGood s t v w) (hW : LawW w b (.slice none 0 0)) :
   Calls Tryz.prog 10 #[.pointer (some ⟨b, 0, none⟩), .agg #[.int .i64 1, .int .i64 0, .int .i64 0, .int .i64 0, .string s, .slice none 0 0, .slice none 0 0, .slice none 0 0]] w fun e w' => ∃ q cap, e = .returned (.bool true) ∧ LawW w' b (.slice (some ⟨q, 0, none⟩) 1 cap) ∧ OneIn w' w.heap.size q t v ∧ Only (Mine b) w w' := by
 have HC : Hid (∀ w1, Only (fun _ => False) w w1 → Calls Tryz.prog 16 #[.string s] w1 fun x w' => ∃ g, x = .returned (.tuple #[.pointer (some ⟨g, 0, none⟩), .int .i64 0, .int .i64 0]) ∧ w1.heap.size ≤ g ∧ CompAt w' w1.heap.size g t v ∧ Only (fun _ => False) w1 w') := fun w1 h1 => compile_yes s w1 t v hv ht (hp w1 a (hS.keep h1))
 have HR := hide hr
 have HW := hide hW
 have hbl := hW.lt
 clear hp hr hW hS ht hv
 go_enter Tryz.func10, Tryz.ntmps10
 go_wp2_with (first | (go_at_call 16; refine (unhide HC _ ((Only.refl _ _).alloc _)).mono ?_; rintro e w1 ⟨gx, rfl, hx1, hx3, hO1⟩; have q4 := cell_kept hO1 ⟨w.heap.size, 4, none⟩ _ (new_cell w _ rfl _ _ 4 _ rfl) (fun f => f); have X3 := hide hx3; clear hx3) | (go_at_call 17; refine (unhide HR w1).mono ?_; rintro e w2 ⟨gy, rfl, hO2, hy1, hy2⟩; have Y2 := hide hy2; clear hy2; have W2 := hide ((unhide HW).keep ((((Only.refl (fun _ => False) w).alloc _).trans hO1).trans hO2) (fun f => f)); have d0 := (unhide W2).c0; have d1 := (unhide W2).f0; have hb2 := (unhide W2).lt))
 go_ret
 have hs1 : w.heap.size + 1 ≤ w1.heap.size := by have := hO1.size; simpa using this
 have hs2 := hO2.size
 have hgx : w.heap.size + 1 ≤ gx := by simpa using hx1
 have k : Only (Mine b) w2 _ := ((((Only.refl (Mine b) w2).mine 0 (Value.slice (some ⟨w2.heap.size + 1, 0, none⟩) 1 ((Question.appendCap 1 0 46).cut (w2.tape w2.drawn (Question.appendCap 1 0 46))))).alloc (.cells #[.pointer (some ⟨gx, 0, none⟩), .pointer (some ⟨gy, 0, none⟩)] 46)).alloc (.cells (#[.pointer (some ⟨gx, 0, none⟩), .pointer (some ⟨gy, 0, none⟩)] ++ Builtin.zeroCells #[.pointer none, .pointer none] ((Question.appendCap 1 0 46).cut (w2.tape w2.drawn (Question.appendCap 1 0 46)) - 1)) 46)).drew
 refine ⟨w2.heap.size + 1, (Question.appendCap 1 0 46).cut (w2.tape w2.drawn (Question.appendCap 1 0 46)), rfl, ?_, ⟨gx, gy, ?_, ?_, ?_, ?_, by omega, by omega, by omega⟩, ?_⟩
 · exact ((unhide W2).set _).keep ((((Only.refl (fun _ => False) _).alloc _).alloc _).drew) (fun f => f)
 · exact (new_cell ((w2.setCell ⟨b, 0, none⟩ _).alloc (.cells #[.pointer (some ⟨gx, 0, none⟩), .pointer (some ⟨gy, 0, none⟩)] 46)) (w2.heap.size + 1) (by rw [World.size_alloc]; simp [World.setCell]) _ _ 0 _ (by rw [Array.getElem?_append_left (by simp)]; rfl))
 · exact (new_cell ((w2.setCell ⟨b, 0, none⟩ _).alloc (.cells #[.pointer (some ⟨gx, 0, none⟩), .pointer (some ⟨gy, 0, none⟩)] 46)) (w2.heap.size + 1) (by rw [World.size_alloc]; simp [World.setCell]) _ _ 1 _ (by rw [Array.getElem?_append_left (by simp)]; rfl))
 · exact (((unhide X3).mono (B' := w.heap.size) (by simp)).keep hO2 (fun _ _ f => f) (by omega)).keep k (fun g hg e => by have : g = b := e; omega) (by omega)
 · exact cell_kept k _ _ (unhide Y2) (fun e => by have : gy = b := e; omega)
 · exact (((((Only.refl (fun _ => False) w).alloc _).trans hO1).trans hO2).mono (fun _ _ f => f.elim)).trans k
theorem OneIn.base {w : World} {base base' q : Nat} {t : Tree} {v : Int} (h : OneIn w base q t v) (hb : base' ≤ base) : OneIn w base' q t v := by
 obtain ⟨gx, gy, h1, h2, h4, h5, h6, h7, h8⟩ := h.at'
 exact ⟨gx, gy, h1, h2, h4.mono hb, h5, by omega, by omega, by omega⟩
set_option maxHeartbeats 2000000 in
set_option maxRecDepth 1000000 in
theorem step_no (b : Nat) (s : ByteArray) (k : Nat) (p : Int) (w : World) (a : Nat → Addr) (hS : Start w a) (k1 : 1 ≤ k) (k2 : k ≤ 8) (hr : RefBad s k p) (hp : ∀ (w : World) (a : Nat → Addr), Start w a → PatBad s a k p w) :
   Calls Tryz.prog 6 #[.pointer (some ⟨b, 0, none⟩), .agg #[.int .i64 1, .int .i64 0, .int .i64 0, .int .i64 0, .string s, .slice none 0 0, .slice none 0 0, .slice none 0 0]] w fun e w' => e = .returned (.bool true) ∧ Only (fun _ => False) w w' := by
 have HC : Hid (∀ w1, Only (fun _ => False) w w1 → Calls Tryz.prog 10 #[.pointer (some ⟨b, 0, none⟩), .agg #[.int .i64 1, .int .i64 0, .int .i64 0, .int .i64 0, .string s, .slice none 0 0, .slice none 0 0, .slice none 0 0]] w1 fun e w' => e = .returned (.bool true) ∧ Only (fun _ => False) w1 w') := fun w1 h1 => compiles_no b s k p w1 a (hS.keep h1) k1 k2 hr hp
 clear hS hp hr
 go_enter Tryz.func6, Tryz.ntmps6
 go_wp2_with (go_at_call 10; refine (unhide HC _ ((Only.refl _ _).alloc _)).mono ?_; rintro e w1 ⟨rfl, hO1⟩)
 go_ret
 exact ⟨rfl, ((Only.refl _ _).alloc _).trans hO1⟩
set_option maxHeartbeats 2000000 in
set_option maxRecDepth 1000000 in
theorem step_yes (b : Nat) (s : ByteArray) (t : Tree) (v : Int) (w : World) (a : Nat → Addr) (hv : v < 300) (ht : TreeOK t) (hS : Start w a) (hr : RefGood s v) (hp : ∀ (w : World) (a : Nat → Addr), Start w a → PatGood s t v w) (hW : LawW w b (.slice none 0 0)) :
   Calls Tryz.prog 6 #[.pointer (some ⟨b, 0, none⟩), .agg #[.int .i64 1, .int .i64 0, .int .i64 0, .int .i64 0, .string s, .slice none 0 0, .slice none 0 0, .slice none 0 0]] w fun e w' => ∃ q cap, e = .returned (.bool true) ∧ LawW w' b (.slice (some ⟨q, 0, none⟩) 1 cap) ∧ OneIn w' w.heap.size q t v ∧ Only (Mine b) w w' := by
 have HC : Hid (∀ w1, Only (fun _ => False) w w1 → Calls Tryz.prog 10 #[.pointer (some ⟨b, 0, none⟩), .agg #[.int .i64 1, .int .i64 0, .int .i64 0, .int .i64 0, .string s, .slice none 0 0, .slice none 0 0, .slice none 0 0]] w1 fun e w' => ∃ q cap, e = .returned (.bool true) ∧ LawW w' b (.slice (some ⟨q, 0, none⟩) 1 cap) ∧ OneIn w' w1.heap.size q t v ∧ Only (Mine b) w1 w') := fun w1 h1 => compiles_yes b s t v w1 a hv ht (hS.keep h1) hr hp (hW.keep h1 (fun f => f))
 clear hp hr hW hS ht hv
 go_enter Tryz.func6, Tryz.ntmps6
 go_wp2_with (go_at_call 10; refine (unhide HC _ ((Only.refl _ _).alloc _)).mono ?_; rintro e w1 ⟨q, cap, rfl, h1, h3, hO1⟩; have H1 := hide h1; have H3 := hide h3; clear h1 h3)
 go_ret
 exact ⟨q, cap, rfl, unhide H1, (unhide H3).base (by simp), ((Only.refl _ _).alloc _).trans hO1⟩
structure OpAt (w : World) (n : Nat) (s : ByteArray) : Prop where
 c0 : w.cell? ⟨n, 0, none⟩ = some (.int .i64 1)
 c1 : w.cell? ⟨n, 1, none⟩ = some (.int .i64 0)
 c2 : w.cell? ⟨n, 2, none⟩ = some (.int .i64 0)
 c3 : w.cell? ⟨n, 3, none⟩ = some (.int .i64 0)
 c4 : w.cell? ⟨n, 4, none⟩ = some (.string s)
 c5 : w.cell? ⟨n, 5, none⟩ = some (.slice none 0 0)
 c6 : w.cell? ⟨n, 6, none⟩ = some (.slice none 0 0)
 c7 : w.cell? ⟨n, 7, none⟩ = some (.slice none 0 0)
theorem OpAt.keep {P : Nat → Prop} {w w' : World} {n : Nat} {s : ByteArray} (h : OpAt w n s) (k : Only P w w') (hn : ¬ P n) : OpAt w' n s :=
 ⟨cell_kept k _ _ h.c0 hn, cell_kept k _ _ h.c1 hn, cell_kept k _ _ h.c2 hn, cell_kept k _ _ h.c3 hn, cell_kept k _ _ h.c4 hn, cell_kept k _ _ h.c5 hn, cell_kept k _ _ h.c6 hn, cell_kept k _ _ h.c7 hn⟩
def store0 : Obj := .cells #[.slice none 0 0, .slice none 0 0, .slice none 0 0, .slice none 0 0, .slice none 0 0, .slice none 0 0, .slice none 0 0, .slice none 0 0, .slice none 0 0, .slice none 0 0, .int .i64 0] 40
theorem LawW.new (w : World) : LawW (w.alloc store0) w.heap.size (.slice none 0 0) :=
 ⟨new_cell w _ rfl _ _ 0 _ rfl, new_cell w _ rfl _ _ 1 _ rfl, new_cell w _ rfl _ _ 2 _ rfl, new_cell w _ rfl _ _ 4 _ rfl, new_cell w _ rfl _ _ 6 _ rfl, new_cell w _ rfl _ _ 7 _ rfl, new_cell w _ rfl _ _ 8 _ rfl, new_cell w _ rfl _ _ 9 _ rfl, new_frozen w _ rfl _ _ 0⟩
set_option maxHeartbeats 4000000 in
set_option maxRecDepth 1000000 in
theorem play_no (n : Nat) (s : ByteArray) (k : Nat) (p : Int) (w : World) (a : Nat → Addr) (hS : Start w a) (k1 : 1 ≤ k) (k2 : k ≤ 8) (hr : RefBad s k p) (hp : ∀ (w : World) (a : Nat → Addr), Start w a → PatBad s a k p w) (hN : OpAt w n s) :
   Calls Tryz.prog 5 #[.slice (some ⟨n, 0, none⟩) 1 1, .int .i64 2, .int .i64 2] w fun e w' => e = .returned (.bool true) ∧ Only (fun _ => False) w w' := by
 have hO0 : Only (fun _ => False) w (w.alloc store0) := (Only.refl _ _).alloc _
 have HC : Hid (∀ w1, Only (fun _ => False) (w.alloc store0) w1 → Calls Tryz.prog 6 #[.pointer (some ⟨w.heap.size, 0, none⟩), .agg #[.int .i64 1, .int .i64 0, .int .i64 0, .int .i64 0, .string s, .slice none 0 0, .slice none 0 0, .slice none 0 0]] w1 fun e w' => e = .returned (.bool true) ∧ Only (fun _ => False) w1 w') := fun w1 h1 => step_no w.heap.size s k p w1 a (hS.keep (hO0.trans h1)) k1 k2 hr hp
 have HW := hide (LawW.new w)
 have hN1 := hN.keep hO0 (fun f => f)
 obtain ⟨o0, o1, o2, o3, o4, o5, o6, o7⟩ := hN1
 clear hS hp hr hN
 have HO := hide hO0
 clear hO0
 unfold store0 at *
 go_enter Tryz.func5, Tryz.ntmps5
 go_wp2_with fail
 refine wp_loop_rounds 2 ?_
 rw [rounds_succ]
 go_wp2_with (first | (go_at_call 6; refine (unhide HC _ ((Only.refl _ _).alloc _)).mono ?_; rintro e w1 ⟨rfl, hO1⟩; have W1 := hide ((unhide HW).keep (((Only.refl (fun _ => False) _).alloc _).trans hO1) (fun f => f))) | (go_at_call 7; refine (kept_any w.heap.size _ _ (unhide W1)).mono ?_; rintro e wq ⟨rfl, hwq⟩; have hwr := hwq.symm; subst hwr; clear hwq))
 rw [rounds_succ]
 go_wp2_with fail
 have e0 := (unhide W1).c0
 have e1 := (unhide W1).c1
 refine wp_loop_rounds 1 ?_
 rw [rounds_succ]
 go_wp2_with fail
 refine wp_loop_rounds 1 ?_
 rw [rounds_succ]
 go_wp2_with (go_at_call 7; refine (kept_any w.heap.size _ _ (unhide W1)).mono ?_; rintro e wq ⟨rfl, hwq⟩; have hwr := hwq.symm; subst hwr; clear hwq)
 go_ret
 exact ⟨rfl, ((unhide HO).alloc _).trans hO1⟩
set_option maxHeartbeats 4000000 in
set_option maxRecDepth 1000000 in
theorem play_yes (n : Nat) (s : ByteArray) (t : Tree) (v : Int) (w : World) (a : Nat → Addr) (ht : TreeOK t) (hS : Start w a) (v0 : 0 ≤ v) (v1 : v < 300) (hr : RefGood s v) (hp : ∀ (w : World) (a : Nat → Addr), Start w a → PatGood s t v w) (hN : OpAt w n s) :
   Calls Tryz.prog 5 #[.slice (some ⟨n, 0, none⟩) 1 1, .int .i64 2, .int .i64 2] w fun e w' => e = .returned (.bool true) ∧ Only (fun _ => False) w w' := by
 have hO0 : Only (fun _ => False) w (w.alloc store0) := (Only.refl _ _).alloc _
 have HC : Hid (∀ w1, Only (fun _ => False) (w.alloc store0) w1 → Calls Tryz.prog 6 #[.pointer (some ⟨w.heap.size, 0, none⟩), .agg #[.int .i64 1, .int .i64 0, .int .i64 0, .int .i64 0, .string s, .slice none 0 0, .slice none 0 0, .slice none 0 0]] w1 fun e w' => ∃ q cap, e = .returned (.bool true) ∧ LawW w' w.heap.size (.slice (some ⟨q, 0, none⟩) 1 cap) ∧ OneIn w' w1.heap.size q t v ∧ Only (Mine w.heap.size) w1 w') := fun w1 h1 => step_yes w.heap.size s t v w1 a v1 ht (hS.keep (hO0.trans h1)) hr hp ((LawW.new w).keep h1 (fun f => f))
 have hN1 := hN.keep hO0 (fun f => f)
 obtain ⟨o0, o1, o2, o3, o4, o5, o6, o7⟩ := hN1
 clear hS hp hr hN
 have HO := hide hO0
 clear hO0
 have hm : min (v + 1) 301 = v + 1 := by omega
 unfold store0 at *
 go_enter Tryz.func5, Tryz.ntmps5
 go_wp2_with fail
 refine wp_loop_rounds 2 ?_
 rw [rounds_succ]
 go_wp2_with (first | (go_at_call 6; refine (unhide HC _ ((Only.refl _ _).alloc _)).mono ?_; rintro e w1 ⟨q, cap, rfl, hW1, hI, hO1⟩; have W1 := hide hW1; have HI := hide hI; clear hW1 hI) | (go_at_call 7; refine (kept_any w.heap.size _ _ (unhide W1)).mono ?_; rintro e wq ⟨rfl, hwq⟩; have hwr := hwq.symm; subst hwr; clear hwq))
 rw [rounds_succ]
 go_wp2_with fail
 have e0 := (unhide W1).c0
 have e1 := (unhide W1).c1
 obtain ⟨gx, gy, i1, i2, i4, i5, i6, i7, i8⟩ := (unhide HI).at'
 have I4 := hide i4
 clear i4
 have HZ : Hid (∀ W, Only (fun _ => False) w1 W → Calls Tryz.prog 8 #[.pointer (some ⟨gx, 0, none⟩)] W fun x w' => x = .returned (.int .i64 (v + 1)) ∧ Only (fun _ => False) w1 w' ∧ w'.cell? ⟨w.heap.size, 0, none⟩ = some (.slice (some ⟨q, 0, none⟩) 1 cap) ∧ w'.cell? ⟨q, 0, none⟩ = some (.pointer (some ⟨gx, 0, none⟩)) ∧ w'.cell? ⟨q, 1, none⟩ = some (.pointer (some ⟨gy, 0, none⟩)) ∧ w'.cell? ⟨gy, 1, none⟩ = some (.int .i64 (v + 1))) := fun W hW =>
   (size_any gx _ W (cell_kept hW _ _ (unhide I4).size (fun f => f))).mono (by
     rintro e w' ⟨rfl, hO⟩
     rw [hm]
     have hO' := hW.trans hO
     exact ⟨rfl, hO', cell_kept hO' _ _ e0 (fun f => f), cell_kept hO' _ _ i1 (fun f => f), cell_kept hO' _ _ i2 (fun f => f), cell_kept hO' _ _ i5 (fun f => f)⟩)
 refine wp_loop_rounds 2 ?_
 rw [rounds_succ]
 go_wp2_with fail
 go_region_held3 (fun w' => w'.cell? ⟨w.heap.size, 0, none⟩ = some (.slice (some ⟨q, 0, none⟩) 1 cap) ∧ w'.cell? ⟨q, 0, none⟩ = some (.pointer (some ⟨gx, 0, none⟩)) ∧ w'.cell? ⟨q, 1, none⟩ = some (.pointer (some ⟨gy, 0, none⟩)) ∧ w'.cell? ⟨gy, 1, none⟩ = some (.int .i64 (v + 1))) (go_keep)
   (first | (go_at_call 8; refine (unhide HZ _ ((Only.refl _ _).drewN _)).mono ?_; rintro e w2 ⟨rfl, hO2, z0, z1, z2, z3⟩))
 have W2 := hide ((unhide W1).keep hO2 (fun f => f))
 have e2 := (unhide W2).c1
 go_wp2_with fail
 rw [rounds_succ]
 go_wp2_with fail
 refine wp_loop_rounds 1 ?_
 rw [rounds_succ]
 go_wp2_with (go_at_call 7; refine (kept_any w.heap.size _ _ (unhide W2)).mono ?_; rintro e wq ⟨rfl, hwq⟩; have hwr := hwq.symm; subst hwr; clear hwq)
 go_ret
 exact ⟨rfl, (((unhide HO).alloc _).later hO1 (fun i hi => by unfold Mine at hi; omega)).trans hO2⟩
end Go.Proofs.YtnagphodmfejiaaGreatDoor
namespace Go.Proofs.YtnagphodmfejiaaGreatDoor
open Go.ChangeShapes Go.WideShapes Go.RowKit
theorem Tryz.ownK : ownKnob Tryz.prog.godebug = none := by kernel_rfl
theorem Tryz.gEt : Tryz.prog.globalNamed "errors.errorType" = some 10 := by kernel_rfl
theorem Tryz.tRt : (Tryz.prog.cutTypes.find? (·.1 == "internal/reflectlite.rtype")).map (·.2) = some 303 := by kernel_rfl
theorem Tryz.nTypes : Tryz.prog.types.size = 452 := by kernel_rfl
theorem Tryz.oneError : ((List.range 452).filter fun t => Tryz.prog.rowNamed t [101, 114, 114, 111, 114]) = [92] := by kernel_rfl
theorem Tryz.cellsES : Tryz.prog.cellsOf 440 = 1 := by kernel_rfl
theorem Tryz.cellsStr : Tryz.prog.cellsOf 9 = 1 := by kernel_rfl
theorem starES : "*" ++ "errors.errorString" = "*errors.errorString" := by decide
theorem Tryz.rowES (u : TypeId) (h : Tryz.prog.typeName? 3 u = some "*errors.errorString") : u = 421 :=
 typeName_ptr_named (nm := "errors.errorString") (by rw [starES]; kernel_rfl) (by kernel_rfl) (by decide) u (by rw [starES]; exact h)
theorem Tryz.gText : Tryz.prog.globalNamed "lineal/fault.Text" = some 1 := by kernel_rfl
theorem Tryz.tText : (Tryz.prog.globals[1]?).map (·.type) = some 92 := by kernel_rfl
theorem Tryz.gLong : Tryz.prog.globalNamed "lineal/fault.Long" = some 2 := by kernel_rfl
theorem Tryz.tLong : (Tryz.prog.globals[2]?).map (·.type) = some 92 := by kernel_rfl
theorem Tryz.gSyntax : Tryz.prog.globalNamed "lineal/fault.Syntax" = some 9 := by kernel_rfl
theorem Tryz.tSyntax : (Tryz.prog.globals[9]?).map (·.type) = some 92 := by kernel_rfl
theorem Tryz.gRange : Tryz.prog.globalNamed "lineal/fault.Range" = some 3 := by kernel_rfl
theorem Tryz.tRange : (Tryz.prog.globals[3]?).map (·.type) = some 92 := by kernel_rfl
theorem Tryz.gCount : Tryz.prog.globalNamed "lineal/fault.Count" = some 4 := by kernel_rfl
theorem Tryz.tCount : (Tryz.prog.globals[4]?).map (·.type) = some 92 := by kernel_rfl
theorem Tryz.gUnsupported : Tryz.prog.globalNamed "lineal/fault.Unsupported" = some 5 := by kernel_rfl
theorem Tryz.tUnsupported : (Tryz.prog.globals[5]?).map (·.type) = some 92 := by kernel_rfl
theorem Tryz.gDeep : Tryz.prog.globalNamed "lineal/fault.Deep" = some 6 := by kernel_rfl
theorem Tryz.tDeep : (Tryz.prog.globals[6]?).map (·.type) = some 92 := by kernel_rfl
theorem Tryz.gTree : Tryz.prog.globalNamed "lineal/fault.Tree" = some 7 := by kernel_rfl
theorem Tryz.tTree : (Tryz.prog.globals[7]?).map (·.type) = some 92 := by kernel_rfl
theorem Tryz.gSchema : Tryz.prog.globalNamed "lineal/fault.Schema" = some 8 := by kernel_rfl
theorem Tryz.tSchema : (Tryz.prog.globals[8]?).map (·.type) = some 92 := by kernel_rfl
theorem Tryz.gBig : Tryz.prog.globalNamed "lineal/fault.Big" = some 0 := by kernel_rfl
theorem Tryz.tBig : (Tryz.prog.globals[0]?).map (·.type) = some 92 := by kernel_rfl
set_option maxRecDepth 100000 in
theorem handle_of {W : World} (h : handlesMet Tryz.prog [("errors.errorType", (Rows.laid_errors_errorType : DataW Unit))] W) : ∀ j, W.cell? ⟨10, j, none⟩ = (#[Value.iface 303 (.agg #[.pointer (some ⟨15, 92, none⟩)])] : Array Value)[j]? := by
 obtain ⟨name, u, ty, e1, e2, e3, e4, e5⟩ := h _ (List.mem_singleton.2 rfl)
 have en : name = [101, 114, 114, 111, 114] := (Option.some.inj e1).symm
 subst en
 obtain rfl := Option.some.inj (Tryz.tRt.symm.trans e2)
 have hm : ty ∈ (List.range 452).filter fun t => Tryz.prog.rowNamed t [101, 114, 114, 111, 114] := List.mem_filter.2 ⟨List.mem_range.2 (by rw [← Tryz.nTypes]; exact e3), e4⟩
 rw [Tryz.oneError] at hm
 obtain rfl := List.mem_singleton.1 hm
 have hh : typeHandle Tryz.prog 92 = .pointer (some ⟨15, 92, none⟩) := by kernel_rfl
 rw [hh] at e5
 exact fun j => World.var?_cell Tryz.gEt e5 j
theorem laid_tail {W : World} {n : String} {d : DataW Unit} {r : List (String × DataW Unit)} (h : laidMet Tryz.prog ((n, d) :: r) W) : laidMet Tryz.prog r W := by
 obtain ⟨ps, ⟨g, t, cs, fuel, p, q, _, _, _, _, hq, rfl⟩, hnd, hrows⟩ := h
 exact ⟨q, hq, List.Nodup.sublist (List.sublist_append_right _ _) hnd, fun b off hm => hrows b off (List.mem_append_right _ hm)⟩
set_option maxRecDepth 1000000 in
theorem sent_step {W : World} {n : String} {g : Nat} {text : List UInt8} {r : List (String × DataW Unit)} (h : laidMet Tryz.prog ((n, .iface "*errors.errorString" (.ptr (.agg [.lit (.string text)]))) :: r) W)
   (hg : Tryz.prog.globalNamed n = some g) (ht : (Tryz.prog.globals[g]?).map (·.type) = some 92) :
   ∃ (b : Addr) (s : ByteArray), (∀ j, W.cell? ⟨g, j, none⟩ = (#[Value.iface 421 (.pointer (some b))] : Array Value)[j]?) ∧ W.cell? b = some (.string s) ∧ s.data.toList = text ∧ (∃ c t, W.heap[b.block]? = some (.cells c t (0, 0))) ∧ laidMet Tryz.prog r W := by
 have htail : laidMet Tryz.prog r W := by
   obtain ⟨ps, ⟨g, t, cs, fuel, p, q, _, _, _, _, hq, rfl⟩, hnd, hrows⟩ := h
   exact ⟨q, hq, List.Nodup.sublist (List.sublist_append_right _ _) hnd, fun b off hm => hrows b off (List.mem_append_right _ hm)⟩
 obtain ⟨ps, ⟨g0, t0, cs0, f0, p0, q0, hg0, ht0, hv0, hd0, _, e0⟩, _, hrows⟩ := h
 obtain rfl := Option.some.inj (hg.symm.trans hg0)
 obtain rfl := Option.some.inj (ht.symm.trans ht0)
 subst e0
 obtain ⟨l0⟩ := cs0
 have ok0 : ∀ u v, l0 = [.iface u v] → Value.okWide Tryz.prog W .any 0 u v := fun u v e => by
   subst e
   exact (hrows g 0 (by simp [MemPlace.row])).2 u v (by simpa using World.var?_cell hg0 hv0 0)
 obtain ⟨b, s, rfl, hc, hs, _, hp⟩ := errorString_of_trod Tryz.underlying92 Tryz.rowES Tryz.underlying421 Tryz.underlying440 rfl rfl Tryz.underlying9 Tryz.cellsES Tryz.cellsStr hd0 ok0
 refine ⟨b, s, fun j => World.var?_cell hg0 hv0 j, hc, hs, (hrows b.block b.off ?_).1, htail⟩
 rw [hp]
 simp [MemPlace.row]
theorem apart_of {W : World} {g : Nat} {T : TypeId} {x : Value} {b : Addr} {s : ByteArray} (h : ∀ j, W.cell? ⟨g, j, none⟩ = (#[Value.iface T x] : Array Value)[j]?) (hb : W.cell? b = some (.string s)) : b.block ≠ g := by
 intro e
 obtain ⟨bl, off, sp⟩ := b
 cases sp with
 | none =>
   have e' : bl = g := e
   subst e'
   rw [h off] at hb
   cases off with
   | zero => simp at hb
   | succ o => simp at hb
 | some y =>
   unfold World.cell? at hb
   simp at hb
   split at hb <;> simp at hb
def sentTxt : Nat → List UInt8
 | 1 => [98, 121, 116, 101, 115, 32, 116, 104, 97, 116, 32, 97, 114, 101, 32, 110, 111, 32, 116, 101, 120, 116]
 | 2 => [116, 111, 111, 32, 109, 97, 110, 121, 32, 98, 121, 116, 101, 115]
 | 3 => [110, 111, 32, 112, 97, 116, 116, 101, 114, 110]
 | 4 => [97, 32, 114, 97, 110, 103, 101, 32, 111, 114, 32, 99, 111, 117, 110, 116, 115, 32, 116, 104, 101, 32, 119, 114, 111, 110, 103, 32, 119, 97, 121, 32, 97, 98, 111, 117, 116]
 | 5 => [97, 32, 99, 111, 117, 110, 116, 32, 116, 104, 97, 116, 32, 105, 115, 32, 116, 111, 111, 32, 103, 114, 101, 97, 116]
 | 6 => [97, 32, 112, 97, 116, 116, 101, 114, 110, 32, 116, 104, 97, 116, 32, 110, 101, 101, 100, 115, 32, 109, 101, 109, 111, 114, 121]
 | 7 => [103, 114, 111, 117, 112, 115, 32, 116, 111, 111, 32, 100, 101, 101, 112, 32, 105, 110, 32, 111, 110, 101, 32, 97, 110, 111, 116, 104, 101, 114]
 | 8 => [97, 32, 112, 97, 116, 116, 101, 114, 110, 32, 116, 104, 97, 116, 32, 105, 115, 32, 116, 111, 111, 32, 108, 97, 114, 103, 101]
 | 9 => [110, 111, 100, 101, 115, 32, 116, 104, 97, 116, 32, 97, 114, 101, 32, 110, 111, 32, 100, 111, 99, 117, 109, 101, 110, 116]
 | 10 => [115, 99, 104, 101, 109, 97, 115, 32, 116, 104, 97, 116, 32, 109, 97, 121, 32, 110, 111, 116, 32, 98, 101]
 | _ => []
theorem sentTxt_all : ((List.range 11).all fun j => (List.range 11).all fun k => decide (j = 0) || decide (k = 0) || decide (j = k) || !(sentTxt j == sentTxt k)) = true := by decide +kernel
theorem sentTxt_ne (j : Nat) (hj : j < 11) (k : Nat) (hk : k < 11) (j1 : 1 ≤ j) (k1 : 1 ≤ k) (hne : j ≠ k) : sentTxt j ≠ sentTxt k := by
 have h := List.all_eq_true.1 (List.all_eq_true.1 sentTxt_all j (List.mem_range.2 hj)) k (List.mem_range.2 hk)
 intro e
 rw [e] at h
 simp at h
 omega
set_option maxRecDepth 100000 in
theorem start_of_laid {W : World} (h : laidMetH Tryz.prog Rows.compilesRow.laid W) : ∃ a, Start W a := by
 obtain ⟨h1, h2⟩ := laidMetH_iff.1 h
 have h2' : handlesMet Tryz.prog [("errors.errorType", (Rows.laid_errors_errorType : DataW Unit))] W := h2
 have he := handle_of h2'
 have h1a : laidMet Tryz.prog ([("math/bits.deBruijn32tab", Rows.laid_math_bits_deBruijn32tab), ("math/bits.deBruijn64tab", Rows.laid_math_bits_deBruijn64tab), ("internal/strconv.uint64pow10", Rows.laid_internal_strconv_uint64pow10), ("lineal/fault.Text", Rows.laid_lineal_fault_Text), ("lineal/fault.Long", Rows.laid_lineal_fault_Long), ("lineal/fault.Syntax", Rows.laid_lineal_fault_Syntax), ("lineal/fault.Range", Rows.laid_lineal_fault_Range), ("lineal/fault.Count", Rows.laid_lineal_fault_Count), ("lineal/fault.Unsupported", Rows.laid_lineal_fault_Unsupported), ("lineal/fault.Deep", Rows.laid_lineal_fault_Deep), ("lineal/fault.Big", Rows.laid_lineal_fault_Big), ("lineal/fault.Tree", Rows.laid_lineal_fault_Tree), ("lineal/fault.Schema", Rows.laid_lineal_fault_Schema)] : List (String × DataW Unit)) W := h1
 have h1b := laid_tail (laid_tail (laid_tail h1a))
 obtain ⟨b1, s1, c1, d1, x1, r1, t1⟩ := sent_step h1b Tryz.gText Tryz.tText
 obtain ⟨b2, s2, c2, d2, x2, r2, t2⟩ := sent_step t1 Tryz.gLong Tryz.tLong
 obtain ⟨b3, s3, c3, d3, x3, r3, t3⟩ := sent_step t2 Tryz.gSyntax Tryz.tSyntax
 obtain ⟨b4, s4, c4, d4, x4, r4, t4⟩ := sent_step t3 Tryz.gRange Tryz.tRange
 obtain ⟨b5, s5, c5, d5, x5, r5, t5⟩ := sent_step t4 Tryz.gCount Tryz.tCount
 obtain ⟨b6, s6, c6, d6, x6, r6, t6⟩ := sent_step t5 Tryz.gUnsupported Tryz.tUnsupported
 obtain ⟨b7, s7, c7, d7, x7, r7, t7⟩ := sent_step t6 Tryz.gDeep Tryz.tDeep
 obtain ⟨b8, s8, c8, d8, x8, r8, t8⟩ := sent_step t7 Tryz.gBig Tryz.tBig
 obtain ⟨b9, s9, c9, d9, x9, r9, t9⟩ := sent_step t8 Tryz.gTree Tryz.tTree
 obtain ⟨b10, s10, c10, d10, x10, r10, t10⟩ := sent_step t9 Tryz.gSchema Tryz.tSchema
 refine ⟨fun k => match k with | 1 => b1 | 2 => b2 | 3 => b3 | 4 => b4 | 5 => b5 | 6 => b6 | 7 => b7 | 8 => b8 | 9 => b9 | 10 => b10 | _ => b1, ⟨(c1 0).trans rfl, (c2 0).trans rfl, (c3 0).trans rfl, (c4 0).trans rfl, (c5 0).trans rfl, (c6 0).trans rfl, (c7 0).trans rfl, (c8 0).trans rfl⟩, ⟨?_, ?_, (c9 0).trans rfl, (c10 0).trans rfl⟩, he 0, ?_⟩
 · intro k k1 k2
   match k, k1, k2 with
   | 1, _, _ => exact r1
   | 2, _, _ => exact r2
   | 3, _, _ => exact r3
   | 4, _, _ => exact r4
   | 5, _, _ => exact r5
   | 6, _, _ => exact r6
   | 7, _, _ => exact r7
   | 8, _, _ => exact r8
   | 9, _, _ => exact r9
   | 10, _, _ => exact r10
   | 0, k1, _ => exact absurd k1 (by decide)
   | k + 11, _, k2 => exact absurd k2 (by omega)
 · have ht : ∀ k, 1 ≤ k → k ≤ 10 → ∃ s : ByteArray, W.cell? ((fun k => match k with | 1 => b1 | 2 => b2 | 3 => b3 | 4 => b4 | 5 => b5 | 6 => b6 | 7 => b7 | 8 => b8 | 9 => b9 | 10 => b10 | _ => b1 : Nat → Addr) k) = some (.string s) ∧ s.data.toList = sentTxt k := by
     intro k k1 k2
     match k, k1, k2 with
     | 1, _, _ => exact ⟨s1, d1, x1⟩
     | 2, _, _ => exact ⟨s2, d2, x2⟩
     | 3, _, _ => exact ⟨s3, d3, x3⟩
     | 4, _, _ => exact ⟨s4, d4, x4⟩
     | 5, _, _ => exact ⟨s5, d5, x5⟩
     | 6, _, _ => exact ⟨s6, d6, x6⟩
     | 7, _, _ => exact ⟨s7, d7, x7⟩
     | 8, _, _ => exact ⟨s8, d8, x8⟩
     | 9, _, _ => exact ⟨s9, d9, x9⟩
     | 10, _, _ => exact ⟨s10, d10, x10⟩
     | 0, k1, _ => exact absurd k1 (by decide)
     | k + 11, _, k2 => exact absurd k2 (by omega)
   intro j k j1 j2 k1 k2 hjk e
   obtain ⟨s, e1, e2⟩ := ht j j1 j2
   obtain ⟨s', e3, e4⟩ := ht k k1 k2
   have e6 := e1.symm.trans ((congrArg W.cell? e).trans e3)
   have es : s = s' := by simpa using e6
   subst es
   exact sentTxt_ne j (by omega) k (by omega) j1 k1 hjk (e2.symm.trans e4)
 · have hlt := World.block_lt_of_cell? W b1 d1
   have a1 := apart_of c1 d1
   have a2 := apart_of c2 d1
   have a3 := apart_of c3 d1
   have a4 := apart_of c4 d1
   have a5 := apart_of c5 d1
   have a6 := apart_of c6 d1
   have a7 := apart_of c7 d1
   have a8 := apart_of c8 d1
   have a9 := apart_of he d1
   have a10 := apart_of c9 d1
   have a11 := apart_of c10 d1
   omega
end Go.Proofs.YtnagphodmfejiaaGreatDoor
namespace Go.Proofs.YtnagphodmfejiaaGreatDoor
theorem jf_inPlace : (Rows.compilesRow.inPlace == Tryz.prog.inPlace 3) = true := by kernel_rfl
theorem jf_unfollowed : (Rows.compilesRow.unfollowed == Tryz.prog.unfollowed 3) = true := by kernel_rfl
theorem jf_recurses : (Rows.compilesRow.recurses == Tryz.prog.recurses 3) = true := by kernel_rfl
theorem jf_named : (Rows.compilesRow.named == Tryz.prog.varsNamed 3) = true := by kernel_rfl
theorem jf_laid : laidOutB Tryz.prog = true := by kernel_rfl
theorem jf_maps : mapsRowed Tryz.prog = true := by kernel_rfl
theorem jf_enter : Tryz.prog.mayEnter = true := by kernel_rfl
theorem jf_heard : Tryz.prog.stopsHeard = true := by kernel_rfl
theorem jf_lifted : (Rows.compilesRow.lifted == Tryz.prog.liftsFinal) = true := by kernel_rfl
theorem and_of {a b : Bool} (h : a = true) (k : b = true) : (a && b) = true := by rw [h, k]; rfl
theorem closed : joinedFacts Tryz.prog 3 Tryz.f3 Rows.compilesSpec Rows.compilesRow = true := by
 unfold joinedFacts
 repeat' (with_reducible refine and_of ?_ ?_)
 all_goals first | with_reducible exact jf_inPlace | with_reducible exact jf_unfollowed | with_reducible exact jf_recurses | with_reducible exact jf_named | with_reducible exact jf_laid | with_reducible exact jf_maps | with_reducible exact jf_enter | with_reducible exact jf_heard | with_reducible exact jf_lifted | (as_aux_lemma => kernel_rfl)
end Go.Proofs.YtnagphodmfejiaaGreatDoor
