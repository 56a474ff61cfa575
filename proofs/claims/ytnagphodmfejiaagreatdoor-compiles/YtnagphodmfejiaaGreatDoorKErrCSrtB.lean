/- The number of a fault's kind. errors.As of a fault at a target of its own type: it is set. The reader's faults are of the kinds 1 to 8. The library's sort of a row of characters: it returns, and turns the row's cells alone. The smallest functions. The library's sort of a row of characters: insertion, sifting down, heaps. -/
import Derived.Test.YtnagphodmfejiaaGreatDoorKChEErrB
import Derived.Test.YtnagphodmfejiaaGreatDoorKParATrA
import Derived.Test.YtnagphodmfejiaaGreatDoorProg
import Derived.Test.YtnagphodmfejiaaGreatDoorKBaseSemD
import Derived.BigGuard
import Derived.BigCall
import Derived.CellFam
import Derived.Deep.Draws
import Derived.BigRegion
import Derived.Sort.Defs
import Derived.Shelf.Abstract
namespace Go.Proofs.YtnagphodmfejiaaGreatDoor
open Go.RowKit
structure SentRows (w : World) (a : Nat → Addr) : Prop where
 row : ∀ k, 1 ≤ k → k ≤ 10 → ∃ c t, w.heap[(a k).block]? = some (.cells c t (0, 0))
 ne : ∀ j k, 1 ≤ j → j ≤ 10 → 1 ≤ k → k ≤ 10 → j ≠ k → a j ≠ a k
 s9 : w.cell? ⟨7, 0, none⟩ = some (sentV a 9)
 s10 : w.cell? ⟨8, 0, none⟩ = some (sentV a 10)
theorem SentRows.keep {w w' : World} {a : Nat → Addr} (h : SentRows w a) (k : Only (fun _ => False) w w') : SentRows w' a :=
 ⟨fun j h1 h2 => by
   obtain ⟨c, t, hc⟩ := h.row j h1 h2
   exact ⟨c, t, (k.block _ (Array.getElem?_eq_some_iff.1 hc).1 (fun f => f)).trans hc⟩, h.ne, (k.cell (World.block_lt_of_cell? w _ h.s9) (fun f => f)).trans h.s9, (k.cell (World.block_lt_of_cell? w _ h.s10) (fun f => f)).trans h.s10⟩
theorem SentRows.is_no {w : World} {a : Nat → Addr} (h : SentRows w a) (g j k : Nat) (h0 : w.cell? ⟨g, 0, none⟩ = some (sentV a k)) (j1 : 1 ≤ j) (j2 : j ≤ 10) (k1 : 1 ≤ k) (k2 : k ≤ 10) (hne : k ≠ j) :
   Calls Tryz.prog 57 #[.iface 140 (.pointer (some ⟨g, 0, none⟩)), .iface 421 (.pointer (some (a j)))] w fun e w' => e = .returned (.bool false) ∧ w' = w := by
 obtain ⟨cb, tb, hb⟩ := h.row j j1 j2
 obtain ⟨cc, tc, hc⟩ := h.row k k1 k2
 exact _root_.Go.Proofs.YtnagphodmfejiaaGreatDoor.is_no g (a j) (a k) cb cc tb tc w h0 (fun e => h.ne k j k1 k2 j1 j2 hne e) hc hb
set_option maxHeartbeats 2000000 in
set_option maxRecDepth 1000000 in
theorem number_1 (g : Nat) (a : Nat → Addr) (w : World) (hS : Sents w a) (h0 : w.cell? ⟨g, 0, none⟩ = some (sentV a 1)) :
   Calls Tryz.prog 31 #[.iface 140 (.pointer (some ⟨g, 0, none⟩))] w fun e w' => e = .returned (.int .i64 1) ∧ w' = w := by
 have C1 := hide (is_yes g (a 1) w h0)
 obtain ⟨s1, s2, s3, s4, s5, s6, s7, s8⟩ := hS
 clear h0 s3
 unfold sentV at s1 s2 s4 s5 s6 s7 s8
 go_enter Tryz.func31, Tryz.ntmps31
 go_wp2_with (first | (go_at_call 57; with_reducible refine (unhide C1).mono ?_; rintro e wq ⟨rfl, hwq⟩; have hwr := hwq.symm; subst hwr; clear hwq C1))
 go_ret
 exact ⟨rfl, rfl⟩
set_option maxHeartbeats 2000000 in
set_option maxRecDepth 1000000 in
theorem number_2 (g : Nat) (a : Nat → Addr) (w : World) (hS : Sents w a) (hR : SentRows w a) (h0 : w.cell? ⟨g, 0, none⟩ = some (sentV a 2)) :
   Calls Tryz.prog 31 #[.iface 140 (.pointer (some ⟨g, 0, none⟩))] w fun e w' => e = .returned (.int .i64 2) ∧ w' = w := by
 have C1 := hide (SentRows.is_no hR g 1 2 h0 (by decide) (by decide) (by decide) (by decide) (by decide))
 have C2 := hide (is_yes g (a 2) w h0)
 obtain ⟨s1, s2, s3, s4, s5, s6, s7, s8⟩ := hS
 clear hR h0 s3
 unfold sentV at s1 s2 s4 s5 s6 s7 s8
 go_enter Tryz.func31, Tryz.ntmps31
 go_wp2_with (first | (go_at_call 57; with_reducible refine (unhide C1).mono ?_; rintro e wq ⟨rfl, hwq⟩; have hwr := hwq.symm; subst hwr; clear hwq C1) | (go_at_call 57; with_reducible refine (unhide C2).mono ?_; rintro e wq ⟨rfl, hwq⟩; have hwr := hwq.symm; subst hwr; clear hwq C2))
 go_ret
 exact ⟨rfl, rfl⟩
set_option maxHeartbeats 2000000 in
set_option maxRecDepth 1000000 in
theorem number_3 (g : Nat) (a : Nat → Addr) (w : World) (hS : Sents w a) (hR : SentRows w a) (h0 : w.cell? ⟨g, 0, none⟩ = some (sentV a 3)) :
   Calls Tryz.prog 31 #[.iface 140 (.pointer (some ⟨g, 0, none⟩))] w fun e w' => e = .returned (.int .i64 3) ∧ w' = w := by
 have C1 := hide (SentRows.is_no hR g 1 3 h0 (by decide) (by decide) (by decide) (by decide) (by decide))
 have C2 := hide (SentRows.is_no hR g 2 3 h0 (by decide) (by decide) (by decide) (by decide) (by decide))
 have C4 := hide (SentRows.is_no hR g 4 3 h0 (by decide) (by decide) (by decide) (by decide) (by decide))
 have C5 := hide (SentRows.is_no hR g 5 3 h0 (by decide) (by decide) (by decide) (by decide) (by decide))
 have C6 := hide (SentRows.is_no hR g 6 3 h0 (by decide) (by decide) (by decide) (by decide) (by decide))
 have C7 := hide (SentRows.is_no hR g 7 3 h0 (by decide) (by decide) (by decide) (by decide) (by decide))
 have C8 := hide (SentRows.is_no hR g 8 3 h0 (by decide) (by decide) (by decide) (by decide) (by decide))
 have C9 := hide (SentRows.is_no hR g 9 3 h0 (by decide) (by decide) (by decide) (by decide) (by decide))
 have C10 := hide (SentRows.is_no hR g 10 3 h0 (by decide) (by decide) (by decide) (by decide) (by decide))
 obtain ⟨_, _, s9, s10⟩ := hR
 obtain ⟨s1, s2, s3, s4, s5, s6, s7, s8⟩ := hS
 clear h0 s3
 unfold sentV at s1 s2 s4 s5 s6 s7 s8 s9 s10
 go_enter Tryz.func31, Tryz.ntmps31
 go_wp2_with (first | (go_at_call 57; with_reducible refine (unhide C1).mono ?_; rintro e wq ⟨rfl, hwq⟩; have hwr := hwq.symm; subst hwr; clear hwq C1) | (go_at_call 57; with_reducible refine (unhide C2).mono ?_; rintro e wq ⟨rfl, hwq⟩; have hwr := hwq.symm; subst hwr; clear hwq C2) | (go_at_call 57; with_reducible refine (unhide C4).mono ?_; rintro e wq ⟨rfl, hwq⟩; have hwr := hwq.symm; subst hwr; clear hwq C4) | (go_at_call 57; with_reducible refine (unhide C5).mono ?_; rintro e wq ⟨rfl, hwq⟩; have hwr := hwq.symm; subst hwr; clear hwq C5) | (go_at_call 57; with_reducible refine (unhide C6).mono ?_; rintro e wq ⟨rfl, hwq⟩; have hwr := hwq.symm; subst hwr; clear hwq C6) | (go_at_call 57; with_reducible refine (unhide C7).mono ?_; rintro e wq ⟨rfl, hwq⟩; have hwr := hwq.symm; subst hwr; clear hwq C7) | (go_at_call 57; with_reducible refine (unhide C8).mono ?_; rintro e wq ⟨rfl, hwq⟩; have hwr := hwq.symm; subst hwr; clear hwq C8) | (go_at_call 57; with_reducible refine (unhide C9).mono ?_; rintro e wq ⟨rfl, hwq⟩; have hwr := hwq.symm; subst hwr; clear hwq C9) | (go_at_call 57; with_reducible refine (unhide C10).mono ?_; rintro e wq ⟨rfl, hwq⟩; have hwr := hwq.symm; subst hwr; clear hwq C10))
 go_ret
 exact ⟨rfl, rfl⟩
set_option maxHeartbeats 2000000 in
set_option maxRecDepth 1000000 in
theorem number_4 (g : Nat) (a : Nat → Addr) (w : World) (hS : Sents w a) (hR : SentRows w a) (h0 : w.cell? ⟨g, 0, none⟩ = some (sentV a 4)) :
   Calls Tryz.prog 31 #[.iface 140 (.pointer (some ⟨g, 0, none⟩))] w fun e w' => e = .returned (.int .i64 4) ∧ w' = w := by
 have C1 := hide (SentRows.is_no hR g 1 4 h0 (by decide) (by decide) (by decide) (by decide) (by decide))
 have C2 := hide (SentRows.is_no hR g 2 4 h0 (by decide) (by decide) (by decide) (by decide) (by decide))
 have C4 := hide (is_yes g (a 4) w h0)
 obtain ⟨s1, s2, s3, s4, s5, s6, s7, s8⟩ := hS
 clear hR h0 s3
 unfold sentV at s1 s2 s4 s5 s6 s7 s8
 go_enter Tryz.func31, Tryz.ntmps31
 go_wp2_with (first | (go_at_call 57; with_reducible refine (unhide C1).mono ?_; rintro e wq ⟨rfl, hwq⟩; have hwr := hwq.symm; subst hwr; clear hwq C1) | (go_at_call 57; with_reducible refine (unhide C2).mono ?_; rintro e wq ⟨rfl, hwq⟩; have hwr := hwq.symm; subst hwr; clear hwq C2) | (go_at_call 57; with_reducible refine (unhide C4).mono ?_; rintro e wq ⟨rfl, hwq⟩; have hwr := hwq.symm; subst hwr; clear hwq C4))
 go_ret
 exact ⟨rfl, rfl⟩
set_option maxHeartbeats 2000000 in
set_option maxRecDepth 1000000 in
theorem number_5 (g : Nat) (a : Nat → Addr) (w : World) (hS : Sents w a) (hR : SentRows w a) (h0 : w.cell? ⟨g, 0, none⟩ = some (sentV a 5)) :
   Calls Tryz.prog 31 #[.iface 140 (.pointer (some ⟨g, 0, none⟩))] w fun e w' => e = .returned (.int .i64 5) ∧ w' = w := by
 have C1 := hide (SentRows.is_no hR g 1 5 h0 (by decide) (by decide) (by decide) (by decide) (by decide))
 have C2 := hide (SentRows.is_no hR g 2 5 h0 (by decide) (by decide) (by decide) (by decide) (by decide))
 have C4 := hide (SentRows.is_no hR g 4 5 h0 (by decide) (by decide) (by decide) (by decide) (by decide))
 have C5 := hide (is_yes g (a 5) w h0)
 obtain ⟨s1, s2, s3, s4, s5, s6, s7, s8⟩ := hS
 clear hR h0 s3
 unfold sentV at s1 s2 s4 s5 s6 s7 s8
 go_enter Tryz.func31, Tryz.ntmps31
 go_wp2_with (first | (go_at_call 57; with_reducible refine (unhide C1).mono ?_; rintro e wq ⟨rfl, hwq⟩; have hwr := hwq.symm; subst hwr; clear hwq C1) | (go_at_call 57; with_reducible refine (unhide C2).mono ?_; rintro e wq ⟨rfl, hwq⟩; have hwr := hwq.symm; subst hwr; clear hwq C2) | (go_at_call 57; with_reducible refine (unhide C4).mono ?_; rintro e wq ⟨rfl, hwq⟩; have hwr := hwq.symm; subst hwr; clear hwq C4) | (go_at_call 57; with_reducible refine (unhide C5).mono ?_; rintro e wq ⟨rfl, hwq⟩; have hwr := hwq.symm; subst hwr; clear hwq C5))
 go_ret
 exact ⟨rfl, rfl⟩
set_option maxHeartbeats 2000000 in
set_option maxRecDepth 1000000 in
theorem number_6 (g : Nat) (a : Nat → Addr) (w : World) (hS : Sents w a) (hR : SentRows w a) (h0 : w.cell? ⟨g, 0, none⟩ = some (sentV a 6)) :
   Calls Tryz.prog 31 #[.iface 140 (.pointer (some ⟨g, 0, none⟩))] w fun e w' => e = .returned (.int .i64 6) ∧ w' = w := by
 have C1 := hide (SentRows.is_no hR g 1 6 h0 (by decide) (by decide) (by decide) (by decide) (by decide))
 have C2 := hide (SentRows.is_no hR g 2 6 h0 (by decide) (by decide) (by decide) (by decide) (by decide))
 have C4 := hide (SentRows.is_no hR g 4 6 h0 (by decide) (by decide) (by decide) (by decide) (by decide))
 have C5 := hide (SentRows.is_no hR g 5 6 h0 (by decide) (by decide) (by decide) (by decide) (by decide))
 have C6 := hide (is_yes g (a 6) w h0)
 obtain ⟨s1, s2, s3, s4, s5, s6, s7, s8⟩ := hS
 clear hR h0 s3
 unfold sentV at s1 s2 s4 s5 s6 s7 s8
 go_enter Tryz.func31, Tryz.ntmps31
 go_wp2_with (first | (go_at_call 57; with_reducible refine (unhide C1).mono ?_; rintro e wq ⟨rfl, hwq⟩; have hwr := hwq.symm; subst hwr; clear hwq C1) | (go_at_call 57; with_reducible refine (unhide C2).mono ?_; rintro e wq ⟨rfl, hwq⟩; have hwr := hwq.symm; subst hwr; clear hwq C2) | (go_at_call 57; with_reducible refine (unhide C4).mono ?_; rintro e wq ⟨rfl, hwq⟩; have hwr := hwq.symm; subst hwr; clear hwq C4) | (go_at_call 57; with_reducible refine (unhide C5).mono ?_; rintro e wq ⟨rfl, hwq⟩; have hwr := hwq.symm; subst hwr; clear hwq C5) | (go_at_call 57; with_reducible refine (unhide C6).mono ?_; rintro e wq ⟨rfl, hwq⟩; have hwr := hwq.symm; subst hwr; clear hwq C6))
 go_ret
 exact ⟨rfl, rfl⟩
set_option maxHeartbeats 2000000 in
set_option maxRecDepth 1000000 in
theorem number_7 (g : Nat) (a : Nat → Addr) (w : World) (hS : Sents w a) (hR : SentRows w a) (h0 : w.cell? ⟨g, 0, none⟩ = some (sentV a 7)) :
   Calls Tryz.prog 31 #[.iface 140 (.pointer (some ⟨g, 0, none⟩))] w fun e w' => e = .returned (.int .i64 7) ∧ w' = w := by
 have C1 := hide (SentRows.is_no hR g 1 7 h0 (by decide) (by decide) (by decide) (by decide) (by decide))
 have C2 := hide (SentRows.is_no hR g 2 7 h0 (by decide) (by decide) (by decide) (by decide) (by decide))
 have C4 := hide (SentRows.is_no hR g 4 7 h0 (by decide) (by decide) (by decide) (by decide) (by decide))
 have C5 := hide (SentRows.is_no hR g 5 7 h0 (by decide) (by decide) (by decide) (by decide) (by decide))
 have C6 := hide (SentRows.is_no hR g 6 7 h0 (by decide) (by decide) (by decide) (by decide) (by decide))
 have C7 := hide (is_yes g (a 7) w h0)
 obtain ⟨s1, s2, s3, s4, s5, s6, s7, s8⟩ := hS
 clear hR h0 s3
 unfold sentV at s1 s2 s4 s5 s6 s7 s8
 go_enter Tryz.func31, Tryz.ntmps31
 go_wp2_with (first | (go_at_call 57; with_reducible refine (unhide C1).mono ?_; rintro e wq ⟨rfl, hwq⟩; have hwr := hwq.symm; subst hwr; clear hwq C1) | (go_at_call 57; with_reducible refine (unhide C2).mono ?_; rintro e wq ⟨rfl, hwq⟩; have hwr := hwq.symm; subst hwr; clear hwq C2) | (go_at_call 57; with_reducible refine (unhide C4).mono ?_; rintro e wq ⟨rfl, hwq⟩; have hwr := hwq.symm; subst hwr; clear hwq C4) | (go_at_call 57; with_reducible refine (unhide C5).mono ?_; rintro e wq ⟨rfl, hwq⟩; have hwr := hwq.symm; subst hwr; clear hwq C5) | (go_at_call 57; with_reducible refine (unhide C6).mono ?_; rintro e wq ⟨rfl, hwq⟩; have hwr := hwq.symm; subst hwr; clear hwq C6) | (go_at_call 57; with_reducible refine (unhide C7).mono ?_; rintro e wq ⟨rfl, hwq⟩; have hwr := hwq.symm; subst hwr; clear hwq C7))
 go_ret
 exact ⟨rfl, rfl⟩
set_option maxHeartbeats 2000000 in
set_option maxRecDepth 1000000 in
theorem number_8 (g : Nat) (a : Nat → Addr) (w : World) (hS : Sents w a) (hR : SentRows w a) (h0 : w.cell? ⟨g, 0, none⟩ = some (sentV a 8)) :
   Calls Tryz.prog 31 #[.iface 140 (.pointer (some ⟨g, 0, none⟩))] w fun e w' => e = .returned (.int .i64 8) ∧ w' = w := by
 have C1 := hide (SentRows.is_no hR g 1 8 h0 (by decide) (by decide) (by decide) (by decide) (by decide))
 have C2 := hide (SentRows.is_no hR g 2 8 h0 (by decide) (by decide) (by decide) (by decide) (by decide))
 have C4 := hide (SentRows.is_no hR g 4 8 h0 (by decide) (by decide) (by decide) (by decide) (by decide))
 have C5 := hide (SentRows.is_no hR g 5 8 h0 (by decide) (by decide) (by decide) (by decide) (by decide))
 have C6 := hide (SentRows.is_no hR g 6 8 h0 (by decide) (by decide) (by decide) (by decide) (by decide))
 have C7 := hide (SentRows.is_no hR g 7 8 h0 (by decide) (by decide) (by decide) (by decide) (by decide))
 have C8 := hide (is_yes g (a 8) w h0)
 obtain ⟨s1, s2, s3, s4, s5, s6, s7, s8⟩ := hS
 clear hR h0 s3
 unfold sentV at s1 s2 s4 s5 s6 s7 s8
 go_enter Tryz.func31, Tryz.ntmps31
 go_wp2_with (first | (go_at_call 57; with_reducible refine (unhide C1).mono ?_; rintro e wq ⟨rfl, hwq⟩; have hwr := hwq.symm; subst hwr; clear hwq C1) | (go_at_call 57; with_reducible refine (unhide C2).mono ?_; rintro e wq ⟨rfl, hwq⟩; have hwr := hwq.symm; subst hwr; clear hwq C2) | (go_at_call 57; with_reducible refine (unhide C4).mono ?_; rintro e wq ⟨rfl, hwq⟩; have hwr := hwq.symm; subst hwr; clear hwq C4) | (go_at_call 57; with_reducible refine (unhide C5).mono ?_; rintro e wq ⟨rfl, hwq⟩; have hwr := hwq.symm; subst hwr; clear hwq C5) | (go_at_call 57; with_reducible refine (unhide C6).mono ?_; rintro e wq ⟨rfl, hwq⟩; have hwr := hwq.symm; subst hwr; clear hwq C6) | (go_at_call 57; with_reducible refine (unhide C7).mono ?_; rintro e wq ⟨rfl, hwq⟩; have hwr := hwq.symm; subst hwr; clear hwq C7) | (go_at_call 57; with_reducible refine (unhide C8).mono ?_; rintro e wq ⟨rfl, hwq⟩; have hwr := hwq.symm; subst hwr; clear hwq C8))
 go_ret
 exact ⟨rfl, rfl⟩
theorem fnumber_any (g k : Nat) (a : Nat → Addr) (w : World) (hS : Sents w a) (hR : SentRows w a) (k1 : 1 ≤ k) (k2 : k ≤ 8) (h0 : w.cell? ⟨g, 0, none⟩ = some (sentV a k)) :
   Calls Tryz.prog 31 #[.iface 140 (.pointer (some ⟨g, 0, none⟩))] w fun e w' => e = .returned (.int .i64 k) ∧ w' = w := by
 match k, k1, k2, h0 with
 | 1, _, _, h0 => exact number_1 g a w hS h0
 | 2, _, _, h0 => exact number_2 g a w hS hR h0
 | 3, _, _, h0 => exact number_3 g a w hS hR h0
 | 4, _, _, h0 => exact number_4 g a w hS hR h0
 | 5, _, _, h0 => exact number_5 g a w hS hR h0
 | 6, _, _, h0 => exact number_6 g a w hS hR h0
 | 7, _, _, h0 => exact number_7 g a w hS hR h0
 | 8, _, _, h0 => exact number_8 g a w hS hR h0
 | 0, k1, _, _ => exact absurd k1 (by decide)
 | k + 9, _, k2, _ => exact absurd k2 (by omega)
end Go.Proofs.YtnagphodmfejiaaGreatDoor
namespace Go.Proofs.YtnagphodmfejiaaGreatDoor
open Go.RowKit Go.Extern.Stop Go.Stop Go.Extern
theorem Tryz.rValueOfPP (t : Addr) (w : World) : (ReflectliteValue.unpack (.iface 142 (.pointer (some t)))).run Tryz.prog w
   = .ok (.agg #[.pointer (some ⟨15, 142, none⟩), .pointer (some ⟨w.heap.size, 0, none⟩), .int .u64 150]) (w.alloc (.cells #[.pointer (some t)] 142)) := by kernel_rfl
theorem Tryz.rTypePP (a : Addr) (w : World) : (ReflectliteValue.methodAny (ReflectliteValue.valueError "reflectlite.Value.Type" 0) (fun t _ _ _ => ReflectliteType.toType t) #[.agg #[.pointer (some ⟨15, 142, none⟩), .pointer (some a), .int .u64 150]]).run Tryz.prog w
   = .ok (.iface 303 (.agg #[.pointer (some ⟨15, 142, none⟩)])) w := by kernel_rfl
theorem Tryz.rMethodKind (h : Value) (w : World) : (Go.method 552 303 (.agg #[h]) "Kind").run Tryz.prog w = .ok (308, h) w := by kernel_rfl
theorem Tryz.rKindPP (w : World) : ((ReflectliteType.abiMethod fun t => (fun a : Nat => Value.int IntKind.u8 (a : Int)) <$> Rtype.kind t) #[.pointer (some ⟨15, 142, none⟩)]).run Tryz.prog w = .ok (.int .u8 22) w := by kernel_rfl
theorem Tryz.rKindP (w : World) : ((ReflectliteType.abiMethod fun t => (fun a : Nat => Value.int IntKind.u8 (a : Int)) <$> Rtype.kind t) #[.pointer (some ⟨15, 140, none⟩)]).run Tryz.prog w = .ok (.int .u8 22) w := by kernel_rfl
theorem Tryz.rPartsPP (a : Addr) (w : World) : (ReflectliteValue.parts (.agg #[.pointer (some ⟨15, 142, none⟩), .pointer (some a), .int .u64 150])).run Tryz.prog w = .ok (some (142, a, 150)) w := by kernel_rfl
theorem Tryz.rIsNilPP (a p : Addr) (W : World) (ha : W.cell? a = some (.pointer (some p))) :
   (ReflectliteValue.method (ReflectliteValue.valueError "reflectlite.Value.IsNil" 0) ReflectliteValue.isNil #[.agg #[.pointer (some ⟨15, 142, none⟩), .pointer (some a), .int .u64 150]]).run Tryz.prog W = .ok (.bool false) W := by
 show (ReflectliteValue.parts (.agg #[.pointer (some ⟨15, 142, none⟩), .pointer (some a), .int .u64 150]) >>= _ : Sem Value).run Tryz.prog W = _
 simp only [Sem.run_bind, Tryz.rPartsPP, Result.andThen]
 simp [ReflectliteValue.isNil, loadVar, isAgg, underlying, Tryz.underlying142, ha, Result.andThen]
theorem Tryz.rMethodElem (h : Value) (w : World) : (Go.method 552 303 (.agg #[h]) "Elem").run Tryz.prog w = .ok (327, .agg #[h]) w := by kernel_rfl
theorem Tryz.rMethodImplements (h : Value) (w : World) : (Go.method 552 303 (.agg #[h]) "Implements").run Tryz.prog w = .ok (328, .agg #[h]) w := by kernel_rfl
theorem Tryz.rMethodAssignableTo (h : Value) (w : World) : (Go.method 552 303 (.agg #[h]) "AssignableTo").run Tryz.prog w = .ok (325, .agg #[h]) w := by kernel_rfl
theorem Tryz.rElemPP (w : World) : (ReflectliteType.method ReflectliteType.elem #[.agg #[.pointer (some ⟨15, 142, none⟩)]]).run Tryz.prog w = .ok (.iface 303 (.agg #[.pointer (some ⟨15, 140, none⟩)])) w := by kernel_rfl
theorem Tryz.rImplementsP (w : World) : (ReflectliteType.relation "Implements" ReflectliteType.implements_ #[.agg #[.pointer (some ⟨15, 140, none⟩)], .iface 303 (.agg #[.pointer (some ⟨15, 92, none⟩)])]).run Tryz.prog w = .ok (.bool true) w := by kernel_rfl
theorem Tryz.rTypeOfP (v : Value) (w : World) : (ReflectliteType.typeOf #[.iface 140 v]).run Tryz.prog w = .ok (.iface 303 (.agg #[.pointer (some ⟨15, 140, none⟩)])) w := by kernel_rfl
theorem Tryz.rAssignableP (w : World) : (ReflectliteType.relation "AssignableTo" ReflectliteType.assignableTo #[.agg #[.pointer (some ⟨15, 140, none⟩)], .iface 303 (.agg #[.pointer (some ⟨15, 140, none⟩)])]).run Tryz.prog w = .ok (.bool true) w := by kernel_rfl
theorem Tryz.rValueOfP (e : Addr) (w : World) : (ReflectliteValue.unpack (.iface 140 (.pointer (some e)))).run Tryz.prog w
   = .ok (.agg #[.pointer (some ⟨15, 140, none⟩), .pointer (some ⟨w.heap.size, 0, none⟩), .int .u64 150]) (w.alloc (.cells #[.pointer (some e)] 140)) := by kernel_rfl
theorem Tryz.rElemOfPP (w : World) : (Rtype.elem? 142).run Tryz.prog w = .ok (some 140) w := by kernel_rfl
theorem Tryz.rMkP (p : Addr) (w : World) : (ReflectliteValue.mk 140 p ReflectliteValue.flagAddr).run Tryz.prog w = .ok (.agg #[.pointer (some ⟨15, 140, none⟩), .pointer (some p), .int .u64 406]) w := by kernel_rfl
theorem Tryz.rElemVPP (a p : Addr) (W : World) (ha : W.cell? a = some (.pointer (some p))) :
   (ReflectliteValue.method (ReflectliteValue.valueError "reflectlite.Value.Elem" 0) ReflectliteValue.elem #[.agg #[.pointer (some ⟨15, 142, none⟩), .pointer (some a), .int .u64 150]]).run Tryz.prog W
     = .ok (.agg #[.pointer (some ⟨15, 140, none⟩), .pointer (some p), .int .u64 406]) W := by
 show (ReflectliteValue.parts (.agg #[.pointer (some ⟨15, 142, none⟩), .pointer (some a), .int .u64 150]) >>= _ : Sem Value).run Tryz.prog W = _
 simp only [Sem.run_bind, Tryz.rPartsPP, Result.andThen]
 simp [ReflectliteValue.elem, loadVar, isAgg, underlying, Tryz.underlying142, ha, Result.andThen, Tryz.rElemOfPP, Tryz.rMkP]
theorem Tryz.rPartsPa (a : Addr) (w : World) : (ReflectliteValue.parts (.agg #[.pointer (some ⟨15, 140, none⟩), .pointer (some a), .int .u64 406])).run Tryz.prog w = .ok (some (140, a, 406)) w := by kernel_rfl
theorem Tryz.rPartsP (a : Addr) (w : World) : (ReflectliteValue.parts (.agg #[.pointer (some ⟨15, 140, none⟩), .pointer (some a), .int .u64 150])).run Tryz.prog w = .ok (some (140, a, 150)) w := by kernel_rfl
theorem Tryz.rDirectP (w : World) : (Rtype.directlyAssignable 140 140).run Tryz.prog w = .ok true w := by kernel_rfl
theorem Tryz.rSetP (ta b e : Addr) (old : Value) (W : World) (hb : W.cell? b = some (.pointer (some e))) (ht : W.cell? ta = some old) (hf : W.frozen? ta = false) :
   (ReflectliteValue.set #[.agg #[.pointer (some ⟨15, 140, none⟩), .pointer (some ta), .int .u64 406], .agg #[.pointer (some ⟨15, 140, none⟩), .pointer (some b), .int .u64 150]]).run Tryz.prog W
     = .ok (.tuple #[]) (W.setCell ta (.pointer (some e))) := by
 show (ReflectliteValue.parts (.agg #[.pointer (some ⟨15, 140, none⟩), .pointer (some ta), .int .u64 406]) >>= fun y => ReflectliteValue.parts (.agg #[.pointer (some ⟨15, 140, none⟩), .pointer (some b), .int .u64 150]) >>= _ : Sem Value).run Tryz.prog W = _
 simp only [Sem.run_bind, Tryz.rPartsPa, Tryz.rPartsP, Result.andThen]
 simp [ReflectliteValue.flagAddr, loadVar, isAgg, underlying, Tryz.underlying140, hb, Result.andThen, Tryz.rDirectP, storeVar, Value.cells, storeCells, Addr.add]
 rw [run_store Tryz.prog W ta _ _ (by rfl)]
 simp [ht, hf]
set_option maxHeartbeats 4000000 in
set_option maxRecDepth 1000000 in
theorem as_hit (e t : Addr) (old : Value) (w : World) (hg : w.cell? ⟨10, 0, none⟩ = some (.iface 303 (.agg #[.pointer (some ⟨15, 92, none⟩)]))) (ht0 : w.cell? t = some old) (hf0 : w.frozen? t = false) :
   Calls Tryz.prog 58 #[.iface 140 (.pointer (some e)), .iface 142 (.pointer (some t))] w fun ev w' => ev = .returned (.bool true) ∧ w' = ((((w.alloc (.cells #[.pointer (some t)] 142)).alloc (.cells #[.pointer (some ⟨15, 142, none⟩), .pointer (some ⟨w.heap.size, 0, none⟩), .int .u64 150] 236)).alloc (.cells #[.pointer (some ⟨15, 142, none⟩), .pointer (some ⟨w.heap.size, 0, none⟩), .int .u64 150] 236)).alloc (.cells #[.pointer (some e)] 140)).setCell t (.pointer (some e)) := by
 have h6 := @run_callFunc_extern Tryz.prog 106 _ (fun args => ReflectliteValue.unpack (args.getD 0 (.tuple #[]))) Tryz.func106 (by kernel_rfl) (by kernel_rfl) (by kernel_rfl) (by kernel_rfl)
 have h7 := @run_callFunc_extern Tryz.prog 107 _ (ReflectliteValue.methodAny (ReflectliteValue.valueError "reflectlite.Value.Type" 0) (fun t _ _ _ => ReflectliteType.toType t)) Tryz.func107 (by kernel_rfl) (by kernel_rfl) (by kernel_rfl) (by kernel_rfl)
 have h8 := @run_callFunc_extern Tryz.prog 108 _ (ReflectliteValue.method (ReflectliteValue.valueError "reflectlite.Value.IsNil" 0) ReflectliteValue.isNil) Tryz.func108 (by kernel_rfl) (by kernel_rfl) (by kernel_rfl) (by kernel_rfl)
 have h27 := @run_callFunc_extern Tryz.prog 308 _ (ReflectliteType.abiMethod fun t => do pure (.int .u8 (← Rtype.kind t))) Tryz.func308 (by kernel_rfl) (by kernel_rfl) (by kernel_rfl) (by kernel_rfl)
 have h37 := @run_callFunc_extern Tryz.prog 327 _ (ReflectliteType.method ReflectliteType.elem) Tryz.func327 (by kernel_rfl) (by kernel_rfl) (by kernel_rfl) (by kernel_rfl)
 have h38 := @run_callFunc_extern Tryz.prog 328 _ (ReflectliteType.relation "Implements" ReflectliteType.implements_) Tryz.func328 (by kernel_rfl) (by kernel_rfl) (by kernel_rfl) (by kernel_rfl)
 have h10 := @run_callFunc_extern Tryz.prog 104 _ ReflectliteType.typeOf Tryz.func104 (by kernel_rfl) (by kernel_rfl) (by kernel_rfl) (by kernel_rfl)
 have h35 := @run_callFunc_extern Tryz.prog 325 _ (ReflectliteType.relation "AssignableTo" ReflectliteType.assignableTo) Tryz.func325 (by kernel_rfl) (by kernel_rfl) (by kernel_rfl) (by kernel_rfl)
 have h11 := @run_callFunc_extern Tryz.prog 150 _ (ReflectliteValue.method (ReflectliteValue.valueError "reflectlite.Value.Elem" 0) ReflectliteValue.elem) Tryz.func150 (by kernel_rfl) (by kernel_rfl) (by kernel_rfl) (by kernel_rfl)
 have h12 := @run_callFunc_extern Tryz.prog 151 _ ReflectliteValue.set Tryz.func151 (by kernel_rfl) (by kernel_rfl) (by kernel_rfl) (by kernel_rfl)
 have tO := Tryz.rTypeOfP
 have mA := Tryz.rMethodAssignableTo
 have aP := Tryz.rAssignableP
 have vP := Tryz.rValueOfP
 have f6 := Tryz.rValueOfPP
 have f7 := Tryz.rTypePP
 have mK := Tryz.rMethodKind
 have mE := Tryz.rMethodElem
 have mI := Tryz.rMethodImplements
 have kPP := Tryz.rKindPP
 have kP := Tryz.rKindP
 have ePP := Tryz.rElemPP
 have iP := Tryz.rImplementsP
 have n8 := Tryz.rIsNilPP ⟨w.heap.size, 0, none⟩ t ((w.alloc (.cells #[.pointer (some t)] 142)).alloc (.cells #[.pointer (some ⟨15, 142, none⟩), .pointer (some ⟨w.heap.size, 0, none⟩), .int .u64 150] 236)) (by simp)
 have hlt : 10 < w.heap.size := World.block_lt_of_cell? w ⟨10, 0, none⟩ hg
 have hg2 : ((w.alloc (.cells #[.pointer (some t)] 142)).alloc (.cells #[.pointer (some ⟨15, 142, none⟩), .pointer (some ⟨w.heap.size, 0, none⟩), .int .u64 150] 236)).cell? ⟨10, 0, none⟩ = some (.iface 303 (.agg #[.pointer (some ⟨15, 92, none⟩)])) := by
   rw [World.cell?_alloc_lt _ _ ⟨10, 0, none⟩ (by simp; omega), World.cell?_alloc_lt _ _ ⟨10, 0, none⟩ hlt]; exact hg
 have htl : t.block < w.heap.size := World.block_lt_of_cell? w t ht0
 have el := Tryz.rElemVPP ⟨w.heap.size, 0, none⟩ t (((w.alloc (.cells #[.pointer (some t)] 142)).alloc (.cells #[.pointer (some ⟨15, 142, none⟩), .pointer (some ⟨w.heap.size, 0, none⟩), .int .u64 150] 236)).alloc (.cells #[.pointer (some ⟨15, 142, none⟩), .pointer (some ⟨w.heap.size, 0, none⟩), .int .u64 150] 236)) (by rw [World.cell?_alloc_lt _ _ ⟨w.heap.size, 0, none⟩ (by simp; omega)]; simp)
 have st := Tryz.rSetP t ⟨w.heap.size + 1 + 1 + 1, 0, none⟩ e old ((((w.alloc (.cells #[.pointer (some t)] 142)).alloc (.cells #[.pointer (some ⟨15, 142, none⟩), .pointer (some ⟨w.heap.size, 0, none⟩), .int .u64 150] 236)).alloc (.cells #[.pointer (some ⟨15, 142, none⟩), .pointer (some ⟨w.heap.size, 0, none⟩), .int .u64 150] 236)).alloc (.cells #[.pointer (some e)] 140))
   (by rw [World.cell?_alloc_at _ _ _ _ (by simp)]; rfl)
   (by rw [World.cell?_alloc_lt _ _ t (by simp; omega), World.cell?_alloc_lt _ _ t (by simp; omega), World.cell?_alloc_lt _ _ t (by simp; omega), World.cell?_alloc_lt _ _ t htl]; exact ht0)
   (by rw [World.frozen?_alloc_old _ _ t (by simp; omega), World.frozen?_alloc_old _ _ t (by simp; omega), World.frozen?_alloc_old _ _ t (by simp; omega), World.frozen?_alloc_old _ _ t (Nat.ne_of_lt htl)]; exact hf0)
 go_enter Tryz.func58, Tryz.ntmps58
 go_wp2
 refine wp_loop_rounds 1 ?_
 rw [rounds_succ]
 go_wp2
 go_ret
 exact ⟨rfl, rfl⟩
theorem as_set (e t : Addr) (old : Value) (w : World) (hg : w.cell? ⟨10, 0, none⟩ = some (.iface 303 (.agg #[.pointer (some ⟨15, 92, none⟩)]))) (ht0 : w.cell? t = some old) (hf0 : w.frozen? t = false) :
   Calls Tryz.prog 58 #[.iface 140 (.pointer (some e)), .iface 142 (.pointer (some t))] w fun ev w' => ev = .returned (.bool true) ∧ w'.cell? t = some (.pointer (some e)) ∧ Only (Mine t.block) w w' := by
 refine (as_hit e t old w hg ht0 hf0).mono ?_
 rintro ev w' ⟨rfl, rfl⟩
 have htl : t.block < w.heap.size := World.block_lt_of_cell? w t ht0
 refine ⟨rfl, World.cell?_setCell_same _ _ _ (u := old) ?_, ?_⟩
 · rw [World.cell?_alloc_lt _ _ t (by simp; omega), World.cell?_alloc_lt _ _ t (by simp; omega), World.cell?_alloc_lt _ _ t (by simp; omega), World.cell?_alloc_lt _ _ t htl]; exact ht0
 · exact ((((((Only.refl (Mine t.block) w).alloc _).alloc _).alloc _).alloc _)).setCell (.inl rfl) _
end Go.Proofs.YtnagphodmfejiaaGreatDoor
namespace Go.Proofs.YtnagphodmfejiaaGreatDoor
open Go.RowKit
namespace Pro
variable {L : List (Int × Int)} {len : Int}
theorem bad_k {k : Nat} (h : k ≤ 8) (p : Int) (n : Nat) : (bad k p n).k ≤ 8 := h
theorem good_k (v : Int) (n : Nat) : (good v n).k ≤ 8 := Nat.zero_le _
theorem zeroO_k (n : Nat) : (zeroO L len n).k ≤ 8 := by unfold zeroO; split; exact bad_k (by decide) _ _; exact good_k _ _
theorem controlO_k (n : Nat) : (controlO L len n).k ≤ 8 := by unfold controlO; split; exact good_k _ _; exact bad_k (by decide) _ _
theorem hexO_k : ∀ (f : Nat) (c : Int) (n : Nat), (hexO L len f c n).k ≤ 8
 | 0, c, n => good_k _ _
 | f + 1, c, n => by unfold hexO; split; exact bad_k (by decide) _ _; exact hexO_k f _ _
theorem bracedO_k : ∀ (f : Nat) (c : Int) (d n : Nat), (bracedO L len f c d n).k ≤ 8
 | 0, c, _, n => good_k _ _
 | f + 1, c, d, n => by
   unfold bracedO; split
   · exact good_k _ _
   · split; exact bad_k (by decide) _ _; exact bracedO_k f _ _ _
theorem unicodeO_k (n : Nat) : (unicodeO L len n).k ≤ 8 := by
 unfold unicodeO; split
 · exact hexO_k _ _ _
 · split; exact good_k _ _; exact hexO_k _ _ _
theorem numO_k (n : Nat) : (numO L len n).k ≤ 8 := by
 unfold numO; split
 · exact good_k _ _
 · split
   · exact zeroO_k _
   · split
     · exact controlO_k _
     · split
       · exact hexO_k _ _ _
       · split
         · exact bracedO_k _ _ _ _
         · split; exact unicodeO_k _; exact bad_k (by decide) _ _
theorem escO_k (n : Nat) : (escO L len n).k ≤ 8 := by
 unfold escO; split
 · exact good_k _ _
 · split; exact bad_k (by decide) _ _; exact numO_k _
theorem memberO_k (n : Nat) : (memberO L len n).k ≤ 8 := by
 unfold memberO; split
 · exact good_k _ _
 · split
   · exact good_k _ _
   · split; exact escO_k _; exact good_k _ _
theorem rangeO_k (m : Bool) (c : Int) (n : Nat) : (rangeO L len m c n).k ≤ 8 := by
 unfold rangeO; split
 · exact memberO_k _
 · split; exact bad_k (by decide) _ _; exact memberO_k _
theorem addO_k (n : Nat) : (addO L len n).k ≤ 8 := by
 unfold addO; split
 · exact memberO_k _
 · split; exact rangeO_k _ _ _; exact memberO_k _
theorem classO_k : ∀ (f n : Nat), (classO L len f n).k ≤ 8
 | 0, n => good_k _ _
 | f + 1, n => by
   unfold classO; split
   · exact good_k _ _
   · split
     · exact bad_k (by decide) _ _
     · split; exact addO_k _; exact classO_k f _
theorem countO_k (n : Nat) : (countO L len n).k ≤ 8 := by
 unfold countO; split
 · exact bad_k (by decide) _ _
 · split; exact bad_k (by decide) _ _; exact good_k _ _
theorem countsO_k (n : Nat) : (countsO L len n).1.k ≤ 8 := by
 unfold countsO; simp only []
 split
 · exact countO_k _
 · split
   · exact good_k _ _
   · split
     · exact bad_k (by decide) _ _
     · split
       · exact good_k _ _
       · split
         · exact countO_k _
         · split
           · exact bad_k (by decide) _ _
           · split; exact bad_k (by decide) _ _; exact good_k _ _
theorem quantO_k (n : Nat) : (quantO L len n).2.1.k ≤ 8 := by
 unfold quantO; split
 · exact good_k _ _
 · split
   · exact good_k _ _
   · split
     · exact good_k _ _
     · split; exact countsO_k _; exact good_k _ _
theorem openO_k (n : Nat) : (openO L len n).k ≤ 8 := by
 unfold openO; split
 · split
   · exact good_k _ _
   · split; exact bad_k (by decide) _ _; exact bad_k (by decide) _ _
 · exact good_k _ _
theorem oneO_k {o : Out} (h : o.k ≤ 8) : (one o).k ≤ 8 := by unfold one; split; exact good_k _ _; exact h
theorem atomO_k {D : Nat → Out} (hD : ∀ n, (D n).k ≤ 8) (n : Nat) : (atomO L len D n).k ≤ 8 := by
 unfold atomO; split
 · exact bad_k (by decide) _ _
 · split
   · exact hD _
   · split
     · exact oneO_k (classO_k _ _)
     · split; exact oneO_k (escO_k _); exact good_k _ _
theorem groupO_k {alt : Nat → Out} (hA : ∀ n, (alt n).k ≤ 8) (n : Nat) : (groupO L len alt n).k ≤ 8 := by
 unfold groupO; split
 · exact openO_k _
 · split
   · exact hA _
   · split; exact good_k _ _; exact bad_k (by decide) _ _
theorem termO_k {D : Nat → Out} (hD : ∀ n, (D n).k ≤ 8) (n : Nat) : (termO L len D n).k ≤ 8 := by
 unfold termO; split
 · exact good_k _ _
 · split
   · exact atomO_k hD _
   · split
     · exact atomO_k hD _
     · split; exact quantO_k _; exact good_k _ _
theorem termsO_k {D : Nat → Out} (hD : ∀ n, (D n).k ≤ 8) : ∀ (f : Nat) (s : Int) (n : Nat), (termsO L len D f s n).k ≤ 8
 | 0, s, n => good_k _ _
 | f + 1, s, n => by
   unfold termsO; split
   · exact good_k _ _
   · split; exact termO_k hD _; exact termsO_k hD f _ _
theorem altO_k {D : Nat → Out} (hD : ∀ n, (D n).k ≤ 8) : ∀ (f : Nat) (zs : List Int) (n : Nat), (altO L len D f zs n).k ≤ 8
 | 0, _, n => good_k _ _
 | f + 1, zs, n => by
   unfold altO; split
   · exact termsO_k hD _ _ _
   · split; exact altO_k hD f _ _; exact good_k _ _
theorem deepO_k : ∀ (r n : Nat), (deepO L len r n).k ≤ 8
 | 0, n => bad_k (by decide) _ _
 | r + 1, n => groupO_k (fun m => altO_k (deepO_k r) _ _ m) n
theorem altP_k (n : Nat) : (altP L len (deepO L len 10) n).k ≤ 8 := altO_k (deepO_k 10) _ _ n
end Pro
end Go.Proofs.YtnagphodmfejiaaGreatDoor
namespace Go.Proofs.YtnagphodmfejiaaGreatDoor
open Go.RowKit
def RowI (w : World) (blk off n : Nat) : Prop := ∃ G : Nat → Int, (∀ t, t < n → w.cell? ⟨blk, off + t, none⟩ = some (.int .i32 (G t))) ∧ ∀ t, t < n → w.frozen? ⟨blk, off + t, none⟩ = false
theorem RowI.keep {P : Nat → Prop} {w w' : World} {blk off n : Nat} (h : RowI w blk off n) (k : Only P w w') (hn : ¬ P blk) : RowI w' blk off n := by
 obtain ⟨G, h1, h2⟩ := h
 exact ⟨G, fun t ht => (k.cell (p := ⟨blk, off + t, none⟩) (World.block_lt_of_cell? w _ (h1 t ht)) hn).trans (h1 t ht), fun t ht => (k.frozen (p := ⟨blk, off + t, none⟩) (World.block_lt_of_cell? w _ (h1 t ht)) hn).trans (h2 t ht)⟩
theorem RowI.set {w : World} {blk off n : Nat} (h : RowI w blk off n) (i : Nat) (z : Int) : RowI (w.setCell ⟨blk, i, none⟩ (.int .i32 z)) blk off n := by
 obtain ⟨G, h1, h2⟩ := h
 refine ⟨fun t => if off + t = i then z else G t, fun t ht => ?_, fun t ht => (frozen_setCell _ _ _ _).trans (h2 t ht)⟩
 by_cases e : off + t = i
 · subst e
   simp only [if_true]
   exact World.cell?_setCell_same _ _ _ (h1 t ht)
 · simp only [if_neg e]
   exact (World.cell?_setCell_other _ _ _ _ (by simp)).trans (h1 t ht)
def Sorts (w : World) (blk off n : Nat) (w' : World) : Prop := Only (Mine blk) w w' ∧ RowI w' blk off n
theorem Sorts.refl {w : World} {blk off n : Nat} (h : RowI w blk off n) : Sorts w blk off n w := ⟨Only.refl _ _, h⟩
theorem Sorts.trans {a b c : World} {blk off n : Nat} (h : Sorts a blk off n b) (k : Sorts b blk off n c) : Sorts a blk off n c := ⟨h.1.trans k.1, k.2⟩
theorem Sorts.drewN {a b : World} {blk off n : Nat} (h : Sorts a blk off n b) (q : Nat) : Sorts a blk off n (b.drewN q) := ⟨h.1.drewN q, h.2⟩
theorem Sorts.drew {a b : World} {blk off n : Nat} (h : Sorts a blk off n b) : Sorts a blk off n b.drew := ⟨h.1.drew, h.2⟩
theorem Sorts.set {a b : World} {blk off n : Nat} (h : Sorts a blk off n b) (i : Nat) (z : Int) : Sorts a blk off n (b.setCell ⟨blk, i, none⟩ (.int .i32 z)) := ⟨h.1.mine _ _, h.2.set i z⟩
theorem isNaN_any (x : Int) (w : World) : Calls Tryz.prog 223 #[.int .i32 x] w fun e w' => e = .returned (.bool false) ∧ w' = w := by
 go_enter Tryz.func223, Tryz.ntmps223
 go_wp2_with fail
 go_ret
 exact ⟨by simp, rfl⟩
theorem less_any (x y : Int) (w : World) : Calls Tryz.prog 201 #[.int .i32 x, .int .i32 y] w fun e w' => e = .returned (.bool (Sort.ltInt x y)) ∧ w' = w := by
 go_enter Tryz.func201, Tryz.ntmps201
 go_wp2_with (go_at_call 223; refine (isNaN_any _ _).mono ?_; rintro e w' ⟨rfl, rfl⟩)
 go_ret
 exact ⟨rfl, rfl⟩
theorem reverseR (blk off n cap a b : Nat) (w : World) (h : RowI w blk off n) (hab : a ≤ b) (hb : b ≤ n) (hn : n < 1099511627776) :
   Calls Tryz.prog 199 #[.slice (some ⟨blk, off, none⟩) n cap, .int .i64 a, .int .i64 b] w fun e w' => e = .returned (.tuple #[]) ∧ Sorts w blk off n w' := by
 have HH := hide h
 clear h
 go_enter Tryz.func199, Tryz.ntmps199
 go_wp2_with fail
 go_loopw [6, 7] (fun vi vj wr => ∃ (i : Nat) (j : Int), vi = .int .i64 i ∧ vj = .int .i64 j ∧ i ≤ n ∧ -1 ≤ j ∧ j < n ∧ Hid (Sorts w blk off n wr)) (fun vi vj _ => (intOf vj + 1 - intOf vi).toNat)
 case atStart => exact ⟨a, (b : Int) - 1, rfl, rfl, by omega, by omega, by omega, Sorts.refl (unhide HH)⟩
 case round =>
   obtain ⟨i, j, rfl, rfl, hi, hj, hjn, HS⟩ := hrel
   by_cases hij : (i : Int) < j
   · obtain ⟨j, rfl⟩ : ∃ q : Nat, j = q := ⟨j.toNat, by omega⟩
     obtain ⟨G, hcw, hfw⟩ := (unhide HS).2
     go_wp2
     go_region
     all_goals go_wp2
     go_roundw
     case rel => exact ⟨i + 1, (j : Int) - 1, by go_num, by go_num, by omega, by omega, by omega, (((unhide HS).drewN _).set _ _).set _ _⟩
     case measure => simp [intOf]; omega
   · go_wp2
     go_end0
     exact ⟨rfl, unhide HS⟩
theorem insertR (blk off n cap a b : Nat) (w : World) (h : RowI w blk off n) (hab : a ≤ b) (hb : b ≤ n) (hn : n < 1099511627776) :
   Calls Tryz.prog 195 #[.slice (some ⟨blk, off, none⟩) n cap, .int .i64 a, .int .i64 b] w fun e w' => e = .returned (.tuple #[]) ∧ Sorts w blk off n w' := by
 have HH := hide h
 clear h
 go_enter Tryz.func195, Tryz.ntmps195
 go_wp2_with fail
 go_loopw [6] (fun vi wr => ∃ i : Nat, vi = .int .i64 i ∧ a < i ∧ i ≤ b + 1 ∧ Hid (Sorts w blk off n wr)) (fun vi _ => b + 1 - (intOf vi).toNat)
 case atStart => exact ⟨a + 1, by go_num, by omega, by omega, Sorts.refl (unhide HH)⟩
 case round =>
   obtain ⟨i, rfl, hai, hib, HS⟩ := hrel
   by_cases hlt : i < b
   · go_wp2
     go_loopw [7] (fun vj wr2 => ∃ j : Nat, vj = .int .i64 j ∧ a ≤ j ∧ j ≤ i ∧ Hid (Sorts w blk off n wr2)) (fun vj _ => (intOf vj).toNat)
     case atStart => exact ⟨i, rfl, by omega, Nat.le_refl _, HS⟩
     case round =>
       obtain ⟨j, rfl, haj, hji, HS2⟩ := hrel
       go_wp2
       by_cases hja : a < j
       · obtain ⟨G, hcw, hfw⟩ := (unhide HS2).2
         go_quiet (first | (go_at_call 201; refine Calls.quiet_of_same (less_any _ _ _)))
         go_wp2
         · go_region
           all_goals go_wp2
           go_roundw
           case rel => exact ⟨j - 1, by congr 1; omega, by omega, by omega, (((unhide HS2).drewN _).set _ _).set _ _⟩
           case measure => simp [intOf]; omega
         · go_roundw
           case rel => exact ⟨i + 1, by go_num, by omega, by omega, (unhide HS2).drewN _⟩
           case measure => simp [intOf]; omega
       · go_quiet (first | (go_at_call 201; refine Calls.quiet_of_same (less_any _ _ _)))
         go_wp2
         go_roundw
         case rel => exact ⟨i + 1, by go_num, by omega, by omega, (unhide HS2).drewN _⟩
         case measure => simp [intOf]; omega
   · go_wp2
     go_end0
     exact ⟨rfl, unhide HS⟩
theorem siftR (blk off n cap lo hi first : Nat) (w : World) (h : RowI w blk off n) (hlo : lo ≤ hi) (hb : first + hi ≤ n) (hn : n < 1099511627776) :
   Calls Tryz.prog 224 #[.slice (some ⟨blk, off, none⟩) n cap, .int .i64 lo, .int .i64 hi, .int .i64 first] w fun e w' => e = .returned (.tuple #[]) ∧ Sorts w blk off n w' := by
 have HH := hide h
 clear h
 go_enter Tryz.func224, Tryz.ntmps224
 go_wp2_with fail
 go_loopw [8] (fun vi wr => ∃ r : Nat, vi = .int .i64 r ∧ r ≤ hi ∧ Hid (Sorts w blk off n wr)) (fun vi _ => hi - (intOf vi).toNat)
 case atStart => exact ⟨lo, rfl, hlo, Sorts.refl (unhide HH)⟩
 case round =>
   obtain ⟨r, rfl, hr, HS⟩ := hrel
   by_cases h1 : hi ≤ 2 * r + 1
   · have h1z : (hi : Int) ≤ 2 * (r : Int) + 1 := by omega
     go_wp2_with fail
     go_end0
     exact ⟨rfl, unhide HS⟩
   · have h1z : ¬ ((hi : Int) ≤ 2 * (r : Int) + 1) := by omega
     obtain ⟨G, hcw, hfw⟩ := (unhide HS).2
     by_cases h2 : 2 * r + 2 < hi
     · have h2z : 2 * (r : Int) + 1 + 1 < (hi : Int) := by omega
       go_wp2_with fail
       go_big_quiet (first | (go_at_call 201; refine Calls.quiet_of_same (less_any _ _ _)))
       go_wp2_with fail
       all_goals
         revert nq; intro nq1
         have HS2 := hide ((unhide HS).drewN nq1)
         obtain ⟨G, hcw, hfw⟩ := (unhide HS2).2
         clear HS
         generalize wr.drewN nq1 = wr2 at *
       · go_big_quiet (first | (go_at_call 201; refine Calls.quiet_of_same (less_any _ _ _)))
         go_wp2_with fail
         · (try simp only [Exit.inBlock, Exit.then]); refine bodyPost_ret (results_none rfl _ _ _) rfl ?_
           exact ⟨rfl, (unhide HS2).drewN _⟩
         · go_region
           all_goals go_wp2
           go_roundw
           case rel => exact ⟨2 * r + 2, by go_num, by omega, (((unhide HS2).drewN _).set _ _).set _ _⟩
           case measure => simp [intOf]; omega
       · go_big_quiet (first | (go_at_call 201; refine Calls.quiet_of_same (less_any _ _ _)))
         go_wp2_with fail
         · (try simp only [Exit.inBlock, Exit.then]); refine bodyPost_ret (results_none rfl _ _ _) rfl ?_
           exact ⟨rfl, (unhide HS2).drewN _⟩
         · go_region
           all_goals go_wp2
           go_roundw
           case rel => exact ⟨2 * r + 1, by go_num, by omega, (((unhide HS2).drewN _).set _ _).set _ _⟩
           case measure => simp [intOf]; omega
     · have h2z : ¬ (2 * (r : Int) + 1 + 1 < (hi : Int)) := by omega
       have h2d : decide (2 * (r : Int) + 1 + 1 < (hi : Int)) = false := by simp; omega
       have h2e : (hi : Int) ≤ 2 * (r : Int) + 1 + 1 := by omega
       go_wp2_with fail
       go_big_quiet (first | (go_at_call 201; refine Calls.quiet_of_same (less_any _ _ _)))
       go_wp2_with fail
       revert nq; intro nq1
       have HS2 := hide ((unhide HS).drewN nq1)
       obtain ⟨G, hcw, hfw⟩ := (unhide HS2).2
       clear HS
       generalize wr.drewN nq1 = wr2 at *
       go_big_quiet (first | (go_at_call 201; refine Calls.quiet_of_same (less_any _ _ _)))
       go_wp2_with fail
       · (try simp only [Exit.inBlock, Exit.then]); refine bodyPost_ret (results_none rfl _ _ _) rfl ?_
         exact ⟨rfl, (unhide HS2).drewN _⟩
       · go_region
         all_goals go_wp2
         go_roundw
         case rel => exact ⟨2 * r + 1, by go_num, by omega, (((unhide HS2).drewN _).set _ _).set _ _⟩
         case measure => simp [intOf]; omega
end Go.Proofs.YtnagphodmfejiaaGreatDoor
