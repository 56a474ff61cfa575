/- The number of a fault's kind. errors.As of a fault at a target of its own type: it is set. -/
import Derived.Test.YtdhmllobgijggaaGreatDoorKErrAB
namespace Go.Proofs.YtdhmllobgijggaaGreatDoor
open Go.RowKit

/-- The sentinels' own rows: each in a block of its own. -/
structure SentRows (w : World) (a : Nat → Addr) : Prop where
  row : ∀ k, 1 ≤ k → k ≤ 8 → ∃ c t, w.heap[(a k).block]? = some (.cells c t (0, 0))
  ne : ∀ j k, 1 ≤ j → j ≤ 8 → 1 ≤ k → k ≤ 8 → j ≠ k → a j ≠ a k

theorem SentRows.keep {w w' : World} {a : Nat → Addr} (h : SentRows w a) (k : Only (fun _ => False) w w') : SentRows w' a :=
  ⟨fun j h1 h2 => by
    obtain ⟨c, t, hc⟩ := h.row j h1 h2
    exact ⟨c, t, (k.block _ (Array.getElem?_eq_some_iff.1 hc).1 (fun f => f)).trans hc⟩, h.ne⟩

theorem SentRows.is_no {w : World} {a : Nat → Addr} (h : SentRows w a) (g j k : Nat) (h0 : w.cell? ⟨g, 0, none⟩ = some (sentV a k)) (j1 : 1 ≤ j) (j2 : j ≤ 8) (k1 : 1 ≤ k) (k2 : k ≤ 8) (hne : k ≠ j) :
    Calls Tryz.prog 51 #[.iface 136 (.pointer (some ⟨g, 0, none⟩)), .iface 248 (.pointer (some (a j)))] w fun e w' => e = .returned (.bool false) ∧ w' = w := by
  obtain ⟨cb, tb, hb⟩ := h.row j j1 j2
  obtain ⟨cc, tc, hc⟩ := h.row k k1 k2
  exact _root_.Go.Proofs.YtdhmllobgijggaaGreatDoor.is_no g (a j) (a k) cb cc tb tc w h0 (fun e => h.ne k j k1 k2 j1 j2 hne e) hc hb

set_option maxHeartbeats 2000000 in
set_option maxRecDepth 1000000 in
theorem number_1 (g : Nat) (a : Nat → Addr) (w : World) (hS : Sents w a) (h0 : w.cell? ⟨g, 0, none⟩ = some (sentV a 1)) :
    Calls Tryz.prog 31 #[.iface 136 (.pointer (some ⟨g, 0, none⟩))] w fun e w' => e = .returned (.int .i64 1) ∧ w' = w := by
  have C1 := hide (is_yes g (a 1) w h0)
  obtain ⟨s1, s2, s3, s4, s5, s6, s7, s8⟩ := hS
  clear h0 s3
  unfold sentV at s1 s2 s4 s5 s6 s7 s8
  go_enter Tryz.func31, Tryz.ntmps31
  go_wp2_with (first | (go_at_call 51; with_reducible refine (unhide C1).mono ?_; rintro e wq ⟨rfl, hwq⟩; have hwr := hwq.symm; subst hwr; clear hwq C1))
  go_ret
  exact ⟨rfl, rfl⟩

set_option maxHeartbeats 2000000 in
set_option maxRecDepth 1000000 in
theorem number_2 (g : Nat) (a : Nat → Addr) (w : World) (hS : Sents w a) (hR : SentRows w a) (h0 : w.cell? ⟨g, 0, none⟩ = some (sentV a 2)) :
    Calls Tryz.prog 31 #[.iface 136 (.pointer (some ⟨g, 0, none⟩))] w fun e w' => e = .returned (.int .i64 2) ∧ w' = w := by
  have C1 := hide (SentRows.is_no hR g 1 2 h0 (by decide) (by decide) (by decide) (by decide) (by decide))
  have C2 := hide (is_yes g (a 2) w h0)
  obtain ⟨s1, s2, s3, s4, s5, s6, s7, s8⟩ := hS
  clear hR h0 s3
  unfold sentV at s1 s2 s4 s5 s6 s7 s8
  go_enter Tryz.func31, Tryz.ntmps31
  go_wp2_with (first | (go_at_call 51; with_reducible refine (unhide C1).mono ?_; rintro e wq ⟨rfl, hwq⟩; have hwr := hwq.symm; subst hwr; clear hwq C1) | (go_at_call 51; with_reducible refine (unhide C2).mono ?_; rintro e wq ⟨rfl, hwq⟩; have hwr := hwq.symm; subst hwr; clear hwq C2))
  go_ret
  exact ⟨rfl, rfl⟩

set_option maxHeartbeats 2000000 in
set_option maxRecDepth 1000000 in
theorem number_3 (g : Nat) (a : Nat → Addr) (w : World) (hS : Sents w a) (hR : SentRows w a) (h0 : w.cell? ⟨g, 0, none⟩ = some (sentV a 3)) :
    Calls Tryz.prog 31 #[.iface 136 (.pointer (some ⟨g, 0, none⟩))] w fun e w' => e = .returned (.int .i64 3) ∧ w' = w := by
  have C1 := hide (SentRows.is_no hR g 1 3 h0 (by decide) (by decide) (by decide) (by decide) (by decide))
  have C2 := hide (SentRows.is_no hR g 2 3 h0 (by decide) (by decide) (by decide) (by decide) (by decide))
  have C4 := hide (SentRows.is_no hR g 4 3 h0 (by decide) (by decide) (by decide) (by decide) (by decide))
  have C5 := hide (SentRows.is_no hR g 5 3 h0 (by decide) (by decide) (by decide) (by decide) (by decide))
  have C6 := hide (SentRows.is_no hR g 6 3 h0 (by decide) (by decide) (by decide) (by decide) (by decide))
  have C7 := hide (SentRows.is_no hR g 7 3 h0 (by decide) (by decide) (by decide) (by decide) (by decide))
  have C8 := hide (SentRows.is_no hR g 8 3 h0 (by decide) (by decide) (by decide) (by decide) (by decide))
  obtain ⟨s1, s2, s3, s4, s5, s6, s7, s8⟩ := hS
  clear hR h0 s3
  unfold sentV at s1 s2 s4 s5 s6 s7 s8
  go_enter Tryz.func31, Tryz.ntmps31
  go_wp2_with (first | (go_at_call 51; with_reducible refine (unhide C1).mono ?_; rintro e wq ⟨rfl, hwq⟩; have hwr := hwq.symm; subst hwr; clear hwq C1) | (go_at_call 51; with_reducible refine (unhide C2).mono ?_; rintro e wq ⟨rfl, hwq⟩; have hwr := hwq.symm; subst hwr; clear hwq C2) | (go_at_call 51; with_reducible refine (unhide C4).mono ?_; rintro e wq ⟨rfl, hwq⟩; have hwr := hwq.symm; subst hwr; clear hwq C4) | (go_at_call 51; with_reducible refine (unhide C5).mono ?_; rintro e wq ⟨rfl, hwq⟩; have hwr := hwq.symm; subst hwr; clear hwq C5) | (go_at_call 51; with_reducible refine (unhide C6).mono ?_; rintro e wq ⟨rfl, hwq⟩; have hwr := hwq.symm; subst hwr; clear hwq C6) | (go_at_call 51; with_reducible refine (unhide C7).mono ?_; rintro e wq ⟨rfl, hwq⟩; have hwr := hwq.symm; subst hwr; clear hwq C7) | (go_at_call 51; with_reducible refine (unhide C8).mono ?_; rintro e wq ⟨rfl, hwq⟩; have hwr := hwq.symm; subst hwr; clear hwq C8))
  go_ret
  exact ⟨rfl, rfl⟩

set_option maxHeartbeats 2000000 in
set_option maxRecDepth 1000000 in
theorem number_4 (g : Nat) (a : Nat → Addr) (w : World) (hS : Sents w a) (hR : SentRows w a) (h0 : w.cell? ⟨g, 0, none⟩ = some (sentV a 4)) :
    Calls Tryz.prog 31 #[.iface 136 (.pointer (some ⟨g, 0, none⟩))] w fun e w' => e = .returned (.int .i64 4) ∧ w' = w := by
  have C1 := hide (SentRows.is_no hR g 1 4 h0 (by decide) (by decide) (by decide) (by decide) (by decide))
  have C2 := hide (SentRows.is_no hR g 2 4 h0 (by decide) (by decide) (by decide) (by decide) (by decide))
  have C4 := hide (is_yes g (a 4) w h0)
  obtain ⟨s1, s2, s3, s4, s5, s6, s7, s8⟩ := hS
  clear hR h0 s3
  unfold sentV at s1 s2 s4 s5 s6 s7 s8
  go_enter Tryz.func31, Tryz.ntmps31
  go_wp2_with (first | (go_at_call 51; with_reducible refine (unhide C1).mono ?_; rintro e wq ⟨rfl, hwq⟩; have hwr := hwq.symm; subst hwr; clear hwq C1) | (go_at_call 51; with_reducible refine (unhide C2).mono ?_; rintro e wq ⟨rfl, hwq⟩; have hwr := hwq.symm; subst hwr; clear hwq C2) | (go_at_call 51; with_reducible refine (unhide C4).mono ?_; rintro e wq ⟨rfl, hwq⟩; have hwr := hwq.symm; subst hwr; clear hwq C4))
  go_ret
  exact ⟨rfl, rfl⟩

set_option maxHeartbeats 2000000 in
set_option maxRecDepth 1000000 in
theorem number_5 (g : Nat) (a : Nat → Addr) (w : World) (hS : Sents w a) (hR : SentRows w a) (h0 : w.cell? ⟨g, 0, none⟩ = some (sentV a 5)) :
    Calls Tryz.prog 31 #[.iface 136 (.pointer (some ⟨g, 0, none⟩))] w fun e w' => e = .returned (.int .i64 5) ∧ w' = w := by
  have C1 := hide (SentRows.is_no hR g 1 5 h0 (by decide) (by decide) (by decide) (by decide) (by decide))
  have C2 := hide (SentRows.is_no hR g 2 5 h0 (by decide) (by decide) (by decide) (by decide) (by decide))
  have C4 := hide (SentRows.is_no hR g 4 5 h0 (by decide) (by decide) (by decide) (by decide) (by decide))
  have C5 := hide (is_yes g (a 5) w h0)
  obtain ⟨s1, s2, s3, s4, s5, s6, s7, s8⟩ := hS
  clear hR h0 s3
  unfold sentV at s1 s2 s4 s5 s6 s7 s8
  go_enter Tryz.func31, Tryz.ntmps31
  go_wp2_with (first | (go_at_call 51; with_reducible refine (unhide C1).mono ?_; rintro e wq ⟨rfl, hwq⟩; have hwr := hwq.symm; subst hwr; clear hwq C1) | (go_at_call 51; with_reducible refine (unhide C2).mono ?_; rintro e wq ⟨rfl, hwq⟩; have hwr := hwq.symm; subst hwr; clear hwq C2) | (go_at_call 51; with_reducible refine (unhide C4).mono ?_; rintro e wq ⟨rfl, hwq⟩; have hwr := hwq.symm; subst hwr; clear hwq C4) | (go_at_call 51; with_reducible refine (unhide C5).mono ?_; rintro e wq ⟨rfl, hwq⟩; have hwr := hwq.symm; subst hwr; clear hwq C5))
  go_ret
  exact ⟨rfl, rfl⟩

set_option maxHeartbeats 2000000 in
set_option maxRecDepth 1000000 in
theorem number_6 (g : Nat) (a : Nat → Addr) (w : World) (hS : Sents w a) (hR : SentRows w a) (h0 : w.cell? ⟨g, 0, none⟩ = some (sentV a 6)) :
    Calls Tryz.prog 31 #[.iface 136 (.pointer (some ⟨g, 0, none⟩))] w fun e w' => e = .returned (.int .i64 6) ∧ w' = w := by
  have C1 := hide (SentRows.is_no hR g 1 6 h0 (by decide) (by decide) (by decide) (by decide) (by decide))
  have C2 := hide (SentRows.is_no hR g 2 6 h0 (by decide) (by decide) (by decide) (by decide) (by decide))
  have C4 := hide (SentRows.is_no hR g 4 6 h0 (by decide) (by decide) (by decide) (by decide) (by decide))
  have C5 := hide (SentRows.is_no hR g 5 6 h0 (by decide) (by decide) (by decide) (by decide) (by decide))
  have C6 := hide (is_yes g (a 6) w h0)
  obtain ⟨s1, s2, s3, s4, s5, s6, s7, s8⟩ := hS
  clear hR h0 s3
  unfold sentV at s1 s2 s4 s5 s6 s7 s8
  go_enter Tryz.func31, Tryz.ntmps31
  go_wp2_with (first | (go_at_call 51; with_reducible refine (unhide C1).mono ?_; rintro e wq ⟨rfl, hwq⟩; have hwr := hwq.symm; subst hwr; clear hwq C1) | (go_at_call 51; with_reducible refine (unhide C2).mono ?_; rintro e wq ⟨rfl, hwq⟩; have hwr := hwq.symm; subst hwr; clear hwq C2) | (go_at_call 51; with_reducible refine (unhide C4).mono ?_; rintro e wq ⟨rfl, hwq⟩; have hwr := hwq.symm; subst hwr; clear hwq C4) | (go_at_call 51; with_reducible refine (unhide C5).mono ?_; rintro e wq ⟨rfl, hwq⟩; have hwr := hwq.symm; subst hwr; clear hwq C5) | (go_at_call 51; with_reducible refine (unhide C6).mono ?_; rintro e wq ⟨rfl, hwq⟩; have hwr := hwq.symm; subst hwr; clear hwq C6))
  go_ret
  exact ⟨rfl, rfl⟩

set_option maxHeartbeats 2000000 in
set_option maxRecDepth 1000000 in
theorem number_7 (g : Nat) (a : Nat → Addr) (w : World) (hS : Sents w a) (hR : SentRows w a) (h0 : w.cell? ⟨g, 0, none⟩ = some (sentV a 7)) :
    Calls Tryz.prog 31 #[.iface 136 (.pointer (some ⟨g, 0, none⟩))] w fun e w' => e = .returned (.int .i64 7) ∧ w' = w := by
  have C1 := hide (SentRows.is_no hR g 1 7 h0 (by decide) (by decide) (by decide) (by decide) (by decide))
  have C2 := hide (SentRows.is_no hR g 2 7 h0 (by decide) (by decide) (by decide) (by decide) (by decide))
  have C4 := hide (SentRows.is_no hR g 4 7 h0 (by decide) (by decide) (by decide) (by decide) (by decide))
  have C5 := hide (SentRows.is_no hR g 5 7 h0 (by decide) (by decide) (by decide) (by decide) (by decide))
  have C6 := hide (SentRows.is_no hR g 6 7 h0 (by decide) (by decide) (by decide) (by decide) (by decide))
  have C7 := hide (is_yes g (a 7) w h0)
  obtain ⟨s1, s2, s3, s4, s5, s6, s7, s8⟩ := hS
  clear hR h0 s3
  unfold sentV at s1 s2 s4 s5 s6 s7 s8
  go_enter Tryz.func31, Tryz.ntmps31
  go_wp2_with (first | (go_at_call 51; with_reducible refine (unhide C1).mono ?_; rintro e wq ⟨rfl, hwq⟩; have hwr := hwq.symm; subst hwr; clear hwq C1) | (go_at_call 51; with_reducible refine (unhide C2).mono ?_; rintro e wq ⟨rfl, hwq⟩; have hwr := hwq.symm; subst hwr; clear hwq C2) | (go_at_call 51; with_reducible refine (unhide C4).mono ?_; rintro e wq ⟨rfl, hwq⟩; have hwr := hwq.symm; subst hwr; clear hwq C4) | (go_at_call 51; with_reducible refine (unhide C5).mono ?_; rintro e wq ⟨rfl, hwq⟩; have hwr := hwq.symm; subst hwr; clear hwq C5) | (go_at_call 51; with_reducible refine (unhide C6).mono ?_; rintro e wq ⟨rfl, hwq⟩; have hwr := hwq.symm; subst hwr; clear hwq C6) | (go_at_call 51; with_reducible refine (unhide C7).mono ?_; rintro e wq ⟨rfl, hwq⟩; have hwr := hwq.symm; subst hwr; clear hwq C7))
  go_ret
  exact ⟨rfl, rfl⟩

set_option maxHeartbeats 2000000 in
set_option maxRecDepth 1000000 in
theorem number_8 (g : Nat) (a : Nat → Addr) (w : World) (hS : Sents w a) (hR : SentRows w a) (h0 : w.cell? ⟨g, 0, none⟩ = some (sentV a 8)) :
    Calls Tryz.prog 31 #[.iface 136 (.pointer (some ⟨g, 0, none⟩))] w fun e w' => e = .returned (.int .i64 8) ∧ w' = w := by
  have C1 := hide (SentRows.is_no hR g 1 8 h0 (by decide) (by decide) (by decide) (by decide) (by decide))
  have C2 := hide (SentRows.is_no hR g 2 8 h0 (by decide) (by decide) (by decide) (by decide) (by decide))
  have C4 := hide (SentRows.is_no hR g 4 8 h0 (by decide) (by decide) (by decide) (by decide) (by decide))
  have C5 := hide (SentRows.is_no hR g 5 8 h0 (by decide) (by decide) (by decide) (by decide) (by decide))
  have C6 := hide (SentRows.is_no hR g 6 8 h0 (by decide) (by decide) (by decide) (by decide) (by decide))
  have C7 := hide (SentRows.is_no hR g 7 8 h0 (by decide) (by decide) (by decide) (by decide) (by decide))
  have C8 := hide (is_yes g (a 8) w h0)
  obtain ⟨s1, s2, s3, s4, s5, s6, s7, s8⟩ := hS
  clear hR h0 s3
  unfold sentV at s1 s2 s4 s5 s6 s7 s8
  go_enter Tryz.func31, Tryz.ntmps31
  go_wp2_with (first | (go_at_call 51; with_reducible refine (unhide C1).mono ?_; rintro e wq ⟨rfl, hwq⟩; have hwr := hwq.symm; subst hwr; clear hwq C1) | (go_at_call 51; with_reducible refine (unhide C2).mono ?_; rintro e wq ⟨rfl, hwq⟩; have hwr := hwq.symm; subst hwr; clear hwq C2) | (go_at_call 51; with_reducible refine (unhide C4).mono ?_; rintro e wq ⟨rfl, hwq⟩; have hwr := hwq.symm; subst hwr; clear hwq C4) | (go_at_call 51; with_reducible refine (unhide C5).mono ?_; rintro e wq ⟨rfl, hwq⟩; have hwr := hwq.symm; subst hwr; clear hwq C5) | (go_at_call 51; with_reducible refine (unhide C6).mono ?_; rintro e wq ⟨rfl, hwq⟩; have hwr := hwq.symm; subst hwr; clear hwq C6) | (go_at_call 51; with_reducible refine (unhide C7).mono ?_; rintro e wq ⟨rfl, hwq⟩; have hwr := hwq.symm; subst hwr; clear hwq C7) | (go_at_call 51; with_reducible refine (unhide C8).mono ?_; rintro e wq ⟨rfl, hwq⟩; have hwr := hwq.symm; subst hwr; clear hwq C8))
  go_ret
  exact ⟨rfl, rfl⟩

/-- The number of a fault, whatever its kind. -/
theorem fnumber_any (g k : Nat) (a : Nat → Addr) (w : World) (hS : Sents w a) (hR : SentRows w a) (k1 : 1 ≤ k) (k2 : k ≤ 8) (h0 : w.cell? ⟨g, 0, none⟩ = some (sentV a k)) :
    Calls Tryz.prog 31 #[.iface 136 (.pointer (some ⟨g, 0, none⟩))] w fun e w' => e = .returned (.int .i64 k) ∧ w' = w := by
  match k, k1, k2, h0 with
  | 1, _, _, h0 => exact number_1 g a w hS h0
  | 2, _, _, h0 => exact number_2 g a w hS hR h0
  | 3, _, _, h0 => exact number_3 g a w hS hR h0
  | 4, _, _, h0 => exact number_4 g a w hS hR h0
  | 5, _, _, h0 => exact number_5 g a w hS hR h0
  | 6, _, _, h0 => exact number_6 g a w hS hR h0
  | 7, _, _, h0 => exact number_7 g a w hS hR h0
  | 8, _, _, h0 => exact number_8 g a w hS hR h0
  | 0, k1, _, _ => exact absurd k1 (by decide)
  | k + 9, _, k2, _ => exact absurd k2 (by omega)
end Go.Proofs.YtdhmllobgijggaaGreatDoor
namespace Go.Proofs.YtdhmllobgijggaaGreatDoor
open Go.RowKit Go.Extern.Stop Go.Stop Go.Extern

theorem Tryz.rValueOfPP (t : Addr) (w : World) : (ReflectliteValue.unpack (.iface 138 (.pointer (some t)))).run Tryz.prog w
    = .ok (.agg #[.pointer (some ⟨10, 138, none⟩), .pointer (some ⟨w.heap.size, 0, none⟩), .int .u64 150]) (w.alloc (.cells #[.pointer (some t)] 138)) := by kernel_rfl
theorem Tryz.rTypePP (a : Addr) (w : World) : (ReflectliteValue.methodAny (ReflectliteValue.valueError "reflectlite.Value.Type" 0) (fun t _ _ _ => ReflectliteType.toType t) #[.agg #[.pointer (some ⟨10, 138, none⟩), .pointer (some a), .int .u64 150]]).run Tryz.prog w
    = .ok (.iface 197 (.agg #[.pointer (some ⟨10, 138, none⟩)])) w := by kernel_rfl
theorem Tryz.rMethodKind (h : Value) (w : World) : (Go.method 382 197 (.agg #[h]) "Kind").run Tryz.prog w = .ok (159, h) w := by kernel_rfl
theorem Tryz.rKindPP (w : World) : ((ReflectliteType.abiMethod fun t => (fun a : Nat => Value.int IntKind.u8 (a : Int)) <$> Rtype.kind t) #[.pointer (some ⟨10, 138, none⟩)]).run Tryz.prog w = .ok (.int .u8 22) w := by kernel_rfl
theorem Tryz.rKindP (w : World) : ((ReflectliteType.abiMethod fun t => (fun a : Nat => Value.int IntKind.u8 (a : Int)) <$> Rtype.kind t) #[.pointer (some ⟨10, 136, none⟩)]).run Tryz.prog w = .ok (.int .u8 22) w := by kernel_rfl
theorem Tryz.rPartsPP (a : Addr) (w : World) : (ReflectliteValue.parts (.agg #[.pointer (some ⟨10, 138, none⟩), .pointer (some a), .int .u64 150])).run Tryz.prog w = .ok (some (138, a, 150)) w := by kernel_rfl
theorem Tryz.rIsNilPP (a p : Addr) (W : World) (ha : W.cell? a = some (.pointer (some p))) :
    (ReflectliteValue.method (ReflectliteValue.valueError "reflectlite.Value.IsNil" 0) ReflectliteValue.isNil #[.agg #[.pointer (some ⟨10, 138, none⟩), .pointer (some a), .int .u64 150]]).run Tryz.prog W = .ok (.bool false) W := by
  show (ReflectliteValue.parts (.agg #[.pointer (some ⟨10, 138, none⟩), .pointer (some a), .int .u64 150]) >>= _ : Sem Value).run Tryz.prog W = _
  simp only [Sem.run_bind, Tryz.rPartsPP, Result.andThen]
  simp [ReflectliteValue.isNil, loadVar, isAgg, underlying, Tryz.underlying138, ha, Result.andThen]
theorem Tryz.rMethodElem (h : Value) (w : World) : (Go.method 382 197 (.agg #[h]) "Elem").run Tryz.prog w = .ok (178, .agg #[h]) w := by kernel_rfl
theorem Tryz.rMethodImplements (h : Value) (w : World) : (Go.method 382 197 (.agg #[h]) "Implements").run Tryz.prog w = .ok (179, .agg #[h]) w := by kernel_rfl
theorem Tryz.rMethodAssignableTo (h : Value) (w : World) : (Go.method 382 197 (.agg #[h]) "AssignableTo").run Tryz.prog w = .ok (176, .agg #[h]) w := by kernel_rfl
theorem Tryz.rElemPP (w : World) : (ReflectliteType.method ReflectliteType.elem #[.agg #[.pointer (some ⟨10, 138, none⟩)]]).run Tryz.prog w = .ok (.iface 197 (.agg #[.pointer (some ⟨10, 136, none⟩)])) w := by kernel_rfl
theorem Tryz.rImplementsP (w : World) : (ReflectliteType.relation "Implements" ReflectliteType.implements_ #[.agg #[.pointer (some ⟨10, 136, none⟩)], .iface 197 (.agg #[.pointer (some ⟨10, 88, none⟩)])]).run Tryz.prog w = .ok (.bool true) w := by kernel_rfl
theorem Tryz.rTypeOfP (v : Value) (w : World) : (ReflectliteType.typeOf #[.iface 136 v]).run Tryz.prog w = .ok (.iface 197 (.agg #[.pointer (some ⟨10, 136, none⟩)])) w := by kernel_rfl
theorem Tryz.rAssignableP (w : World) : (ReflectliteType.relation "AssignableTo" ReflectliteType.assignableTo #[.agg #[.pointer (some ⟨10, 136, none⟩)], .iface 197 (.agg #[.pointer (some ⟨10, 136, none⟩)])]).run Tryz.prog w = .ok (.bool true) w := by kernel_rfl
theorem Tryz.rValueOfP (e : Addr) (w : World) : (ReflectliteValue.unpack (.iface 136 (.pointer (some e)))).run Tryz.prog w
    = .ok (.agg #[.pointer (some ⟨10, 136, none⟩), .pointer (some ⟨w.heap.size, 0, none⟩), .int .u64 150]) (w.alloc (.cells #[.pointer (some e)] 136)) := by kernel_rfl
theorem Tryz.rElemOfPP (w : World) : (Rtype.elem? 138).run Tryz.prog w = .ok (some 136) w := by kernel_rfl
theorem Tryz.rMkP (p : Addr) (w : World) : (ReflectliteValue.mk 136 p ReflectliteValue.flagAddr).run Tryz.prog w = .ok (.agg #[.pointer (some ⟨10, 136, none⟩), .pointer (some p), .int .u64 406]) w := by kernel_rfl
theorem Tryz.rElemVPP (a p : Addr) (W : World) (ha : W.cell? a = some (.pointer (some p))) :
    (ReflectliteValue.method (ReflectliteValue.valueError "reflectlite.Value.Elem" 0) ReflectliteValue.elem #[.agg #[.pointer (some ⟨10, 138, none⟩), .pointer (some a), .int .u64 150]]).run Tryz.prog W
      = .ok (.agg #[.pointer (some ⟨10, 136, none⟩), .pointer (some p), .int .u64 406]) W := by
  show (ReflectliteValue.parts (.agg #[.pointer (some ⟨10, 138, none⟩), .pointer (some a), .int .u64 150]) >>= _ : Sem Value).run Tryz.prog W = _
  simp only [Sem.run_bind, Tryz.rPartsPP, Result.andThen]
  simp [ReflectliteValue.elem, loadVar, isAgg, underlying, Tryz.underlying138, ha, Result.andThen, Tryz.rElemOfPP, Tryz.rMkP]
theorem Tryz.rPartsPa (a : Addr) (w : World) : (ReflectliteValue.parts (.agg #[.pointer (some ⟨10, 136, none⟩), .pointer (some a), .int .u64 406])).run Tryz.prog w = .ok (some (136, a, 406)) w := by kernel_rfl
theorem Tryz.rPartsP (a : Addr) (w : World) : (ReflectliteValue.parts (.agg #[.pointer (some ⟨10, 136, none⟩), .pointer (some a), .int .u64 150])).run Tryz.prog w = .ok (some (136, a, 150)) w := by kernel_rfl
theorem Tryz.rDirectP (w : World) : (Rtype.directlyAssignable 136 136).run Tryz.prog w = .ok true w := by kernel_rfl
theorem Tryz.rSetP (ta b e : Addr) (old : Value) (W : World) (hb : W.cell? b = some (.pointer (some e))) (ht : W.cell? ta = some old) (hf : W.frozen? ta = false) :
    (ReflectliteValue.set #[.agg #[.pointer (some ⟨10, 136, none⟩), .pointer (some ta), .int .u64 406], .agg #[.pointer (some ⟨10, 136, none⟩), .pointer (some b), .int .u64 150]]).run Tryz.prog W
      = .ok (.tuple #[]) (W.setCell ta (.pointer (some e))) := by
  show (ReflectliteValue.parts (.agg #[.pointer (some ⟨10, 136, none⟩), .pointer (some ta), .int .u64 406]) >>= fun y => ReflectliteValue.parts (.agg #[.pointer (some ⟨10, 136, none⟩), .pointer (some b), .int .u64 150]) >>= _ : Sem Value).run Tryz.prog W = _
  simp only [Sem.run_bind, Tryz.rPartsPa, Tryz.rPartsP, Result.andThen]
  simp [ReflectliteValue.flagAddr, loadVar, isAgg, underlying, Tryz.underlying136, hb, Result.andThen, Tryz.rDirectP, storeVar, Value.cells, storeCells, Addr.add]
  rw [run_store Tryz.prog W ta _ _ (by rfl)]
  simp [ht, hf]

set_option maxHeartbeats 4000000 in
set_option maxRecDepth 1000000 in
theorem as_hit (e t : Addr) (old : Value) (w : World) (hg : w.cell? ⟨8, 0, none⟩ = some (.iface 197 (.agg #[.pointer (some ⟨10, 88, none⟩)]))) (ht0 : w.cell? t = some old) (hf0 : w.frozen? t = false) :
    Calls Tryz.prog 52 #[.iface 136 (.pointer (some e)), .iface 138 (.pointer (some t))] w fun ev w' => ev = .returned (.bool true) ∧ w' = ((((w.alloc (.cells #[.pointer (some t)] 138)).alloc (.cells #[.pointer (some ⟨10, 138, none⟩), .pointer (some ⟨w.heap.size, 0, none⟩), .int .u64 150] 173)).alloc (.cells #[.pointer (some ⟨10, 138, none⟩), .pointer (some ⟨w.heap.size, 0, none⟩), .int .u64 150] 173)).alloc (.cells #[.pointer (some e)] 136)).setCell t (.pointer (some e)) := by
  have h6 := @run_callFunc_extern Tryz.prog 75 _ (fun args => ReflectliteValue.unpack (args.getD 0 (.tuple #[]))) Tryz.func75 (by kernel_rfl) (by kernel_rfl) (by kernel_rfl) (by kernel_rfl)
  have h7 := @run_callFunc_extern Tryz.prog 76 _ (ReflectliteValue.methodAny (ReflectliteValue.valueError "reflectlite.Value.Type" 0) (fun t _ _ _ => ReflectliteType.toType t)) Tryz.func76 (by kernel_rfl) (by kernel_rfl) (by kernel_rfl) (by kernel_rfl)
  have h8 := @run_callFunc_extern Tryz.prog 77 _ (ReflectliteValue.method (ReflectliteValue.valueError "reflectlite.Value.IsNil" 0) ReflectliteValue.isNil) Tryz.func77 (by kernel_rfl) (by kernel_rfl) (by kernel_rfl) (by kernel_rfl)
  have h27 := @run_callFunc_extern Tryz.prog 159 _ (ReflectliteType.abiMethod fun t => do pure (.int .u8 (← Rtype.kind t))) Tryz.func159 (by kernel_rfl) (by kernel_rfl) (by kernel_rfl) (by kernel_rfl)
  have h37 := @run_callFunc_extern Tryz.prog 178 _ (ReflectliteType.method ReflectliteType.elem) Tryz.func178 (by kernel_rfl) (by kernel_rfl) (by kernel_rfl) (by kernel_rfl)
  have h38 := @run_callFunc_extern Tryz.prog 179 _ (ReflectliteType.relation "Implements" ReflectliteType.implements_) Tryz.func179 (by kernel_rfl) (by kernel_rfl) (by kernel_rfl) (by kernel_rfl)
  have h10 := @run_callFunc_extern Tryz.prog 73 _ ReflectliteType.typeOf Tryz.func73 (by kernel_rfl) (by kernel_rfl) (by kernel_rfl) (by kernel_rfl)
  have h35 := @run_callFunc_extern Tryz.prog 176 _ (ReflectliteType.relation "AssignableTo" ReflectliteType.assignableTo) Tryz.func176 (by kernel_rfl) (by kernel_rfl) (by kernel_rfl) (by kernel_rfl)
  have h11 := @run_callFunc_extern Tryz.prog 92 _ (ReflectliteValue.method (ReflectliteValue.valueError "reflectlite.Value.Elem" 0) ReflectliteValue.elem) Tryz.func92 (by kernel_rfl) (by kernel_rfl) (by kernel_rfl) (by kernel_rfl)
  have h12 := @run_callFunc_extern Tryz.prog 93 _ ReflectliteValue.set Tryz.func93 (by kernel_rfl) (by kernel_rfl) (by kernel_rfl) (by kernel_rfl)
  have tO := Tryz.rTypeOfP
  have mA := Tryz.rMethodAssignableTo
  have aP := Tryz.rAssignableP
  have vP := Tryz.rValueOfP
  have f6 := Tryz.rValueOfPP
  have f7 := Tryz.rTypePP
  have mK := Tryz.rMethodKind
  have mE := Tryz.rMethodElem
  have mI := Tryz.rMethodImplements
  have kPP := Tryz.rKindPP
  have kP := Tryz.rKindP
  have ePP := Tryz.rElemPP
  have iP := Tryz.rImplementsP
  have n8 := Tryz.rIsNilPP ⟨w.heap.size, 0, none⟩ t ((w.alloc (.cells #[.pointer (some t)] 138)).alloc (.cells #[.pointer (some ⟨10, 138, none⟩), .pointer (some ⟨w.heap.size, 0, none⟩), .int .u64 150] 173)) (by simp)
  have hlt : 8 < w.heap.size := World.block_lt_of_cell? w ⟨8, 0, none⟩ hg
  have hg2 : ((w.alloc (.cells #[.pointer (some t)] 138)).alloc (.cells #[.pointer (some ⟨10, 138, none⟩), .pointer (some ⟨w.heap.size, 0, none⟩), .int .u64 150] 173)).cell? ⟨8, 0, none⟩ = some (.iface 197 (.agg #[.pointer (some ⟨10, 88, none⟩)])) := by
    rw [World.cell?_alloc_lt _ _ ⟨8, 0, none⟩ (by simp; omega), World.cell?_alloc_lt _ _ ⟨8, 0, none⟩ hlt]; exact hg
  have htl : t.block < w.heap.size := World.block_lt_of_cell? w t ht0
  have el := Tryz.rElemVPP ⟨w.heap.size, 0, none⟩ t (((w.alloc (.cells #[.pointer (some t)] 138)).alloc (.cells #[.pointer (some ⟨10, 138, none⟩), .pointer (some ⟨w.heap.size, 0, none⟩), .int .u64 150] 173)).alloc (.cells #[.pointer (some ⟨10, 138, none⟩), .pointer (some ⟨w.heap.size, 0, none⟩), .int .u64 150] 173)) (by rw [World.cell?_alloc_lt _ _ ⟨w.heap.size, 0, none⟩ (by simp; omega)]; simp)
  have st := Tryz.rSetP t ⟨w.heap.size + 1 + 1 + 1, 0, none⟩ e old ((((w.alloc (.cells #[.pointer (some t)] 138)).alloc (.cells #[.pointer (some ⟨10, 138, none⟩), .pointer (some ⟨w.heap.size, 0, none⟩), .int .u64 150] 173)).alloc (.cells #[.pointer (some ⟨10, 138, none⟩), .pointer (some ⟨w.heap.size, 0, none⟩), .int .u64 150] 173)).alloc (.cells #[.pointer (some e)] 136))
    (by rw [World.cell?_alloc_at _ _ _ _ (by simp)]; rfl)
    (by rw [World.cell?_alloc_lt _ _ t (by simp; omega), World.cell?_alloc_lt _ _ t (by simp; omega), World.cell?_alloc_lt _ _ t (by simp; omega), World.cell?_alloc_lt _ _ t htl]; exact ht0)
    (by rw [World.frozen?_alloc_old _ _ t (by simp; omega), World.frozen?_alloc_old _ _ t (by simp; omega), World.frozen?_alloc_old _ _ t (by simp; omega), World.frozen?_alloc_old _ _ t (Nat.ne_of_lt htl)]; exact hf0)
  go_enter Tryz.func52, Tryz.ntmps52
  go_wp2
  refine wp_loop_rounds 1 ?_
  rw [rounds_succ]
  go_wp2
  go_ret
  exact ⟨rfl, rfl⟩

/-- Of the world behind it: the target is set, and of all else nothing has turned. -/
theorem as_set (e t : Addr) (old : Value) (w : World) (hg : w.cell? ⟨8, 0, none⟩ = some (.iface 197 (.agg #[.pointer (some ⟨10, 88, none⟩)]))) (ht0 : w.cell? t = some old) (hf0 : w.frozen? t = false) :
    Calls Tryz.prog 52 #[.iface 136 (.pointer (some e)), .iface 138 (.pointer (some t))] w fun ev w' => ev = .returned (.bool true) ∧ w'.cell? t = some (.pointer (some e)) ∧ Only (Mine t.block) w w' := by
  refine (as_hit e t old w hg ht0 hf0).mono ?_
  rintro ev w' ⟨rfl, rfl⟩
  have htl : t.block < w.heap.size := World.block_lt_of_cell? w t ht0
  refine ⟨rfl, World.cell?_setCell_same _ _ _ (u := old) ?_, ?_⟩
  · rw [World.cell?_alloc_lt _ _ t (by simp; omega), World.cell?_alloc_lt _ _ t (by simp; omega), World.cell?_alloc_lt _ _ t (by simp; omega), World.cell?_alloc_lt _ _ t htl]; exact ht0
  · exact ((((((Only.refl (Mine t.block) w).alloc _).alloc _).alloc _).alloc _)).setCell (.inl rfl) _
end Go.Proofs.YtdhmllobgijggaaGreatDoor
