/- errors.Is of a fault and a sentinel. errors.Is of a fault and another sentinel. -/
import Derived.Test.YtdhmllobgijggaaGreatDoorKPatAB
import Derived.LaidEql
import Derived.Stop.Asserts
import Derived.RowKitTokens
namespace Go.Proofs.YtdhmllobgijggaaGreatDoor
open Go.RowKit Go.Extern.Stop Go.Stop Go.Extern

theorem Tryz.eTypeOf (v : Value) (w : World) : (Extern.ReflectliteType.typeOf #[.iface 248 v]).run Tryz.prog w = .ok (.iface 197 (.agg #[.pointer (some ⟨10, 248, none⟩)])) w := by kernel_rfl
theorem Tryz.eComparable (w : World) : ((Extern.ReflectliteType.method fun t => do Rtype.noPackHeld "Comparable" t; (fun a => Value.bool a.comparable) <$> typeInfo t) #[.agg #[.pointer (some ⟨10, 248, none⟩)]]).run Tryz.prog w = .ok (.bool true) w := by kernel_rfl
theorem Tryz.eMethod (v : Value) (w : World) : (Go.method 382 197 v "Comparable").run Tryz.prog w = .ok (177, v) w := by kernel_rfl
theorem Tryz.eComp : (Tryz.prog.info? 248).map (·.comparable) = some true := by kernel_rfl
theorem Tryz.eSize : (Tryz.prog.info? 270).map (·.size) = some 1 := by kernel_rfl
theorem Tryz.eNoIs (v : Value) (xT : TypeId) (w : World) : (Instr.typeAssert (.iface 248 v) xT 199 true).run Tryz.prog w = .ok (.tuple #[.nilIface, .bool false]) w := run_typeAssert_lacksB Tryz.underlying199 (by kernel_rfl) (by kernel_rfl) v xT w
theorem Tryz.eNoUn (v : Value) (xT : TypeId) (w : World) : (Instr.typeAssert (.iface 248 v) xT 202 true).run Tryz.prog w = .ok (.tuple #[.nilIface, .bool false]) w := run_typeAssert_lacksB Tryz.underlying202 (by kernel_rfl) (by kernel_rfl) v xT w
theorem Tryz.eNoUns (v : Value) (xT : TypeId) (w : World) : (Instr.typeAssert (.iface 248 v) xT 203 true).run Tryz.prog w = .ok (.tuple #[.nilIface, .bool false]) w := run_typeAssert_lacksB Tryz.underlying203 (by kernel_rfl) (by kernel_rfl) v xT w
theorem Tryz.fNoIs (v : Value) (xT : TypeId) (w : World) : (Instr.typeAssert (.iface 136 v) xT 199 true).run Tryz.prog w = .ok (.tuple #[.nilIface, .bool false]) w := run_typeAssert_lacksB Tryz.underlying199 (by kernel_rfl) (by kernel_rfl) v xT w
theorem Tryz.fUn (v : Value) (xT : TypeId) (w : World) : (Instr.typeAssert (.iface 136 v) xT 202 true).run Tryz.prog w = .ok (.tuple #[.iface 136 v, .bool true]) w := run_typeAssert_hasB Tryz.underlying202 (by kernel_rfl) v xT w
theorem Tryz.fMethod (v : Value) (w : World) : (Go.method 382 136 v "Unwrap").run Tryz.prog w = .ok (171, v) w := by kernel_rfl

set_option maxHeartbeats 4000000 in
set_option maxRecDepth 1000000 in
theorem is_yes (g : Nat) (b : Addr) (w : World) (h0 : w.cell? ⟨g, 0, none⟩ = some (.iface 248 (.pointer (some b)))) :
    Calls Tryz.prog 51 #[.iface 136 (.pointer (some ⟨g, 0, none⟩)), .iface 248 (.pointer (some b))] w fun e w' => e = .returned (.bool true) ∧ w' = w := by
  obtain ⟨i, hi, hcmp⟩ := Option.map_eq_some_iff.1 Tryz.eComp
  obtain ⟨j, hj, hjs⟩ := Option.map_eq_some_iff.1 Tryz.eSize
  have x1 := @run_callFunc_extern Tryz.prog 73 _ Extern.ReflectliteType.typeOf Tryz.func73 (by kernel_rfl) (by kernel_rfl) (by kernel_rfl) (by kernel_rfl)
  have x2 := @run_callFunc_extern Tryz.prog 177 _ (Extern.ReflectliteType.method fun t => do Rtype.noPackHeld "Comparable" t; pure (.bool (← typeInfo t).comparable)) Tryz.func177 (by kernel_rfl) (by kernel_rfl) (by kernel_rfl) (by kernel_rfl)
  have t1 := Tryz.eTypeOf
  have t2 := Tryz.eComparable
  have t3 := Tryz.eMethod
  have t4 := Tryz.eNoIs
  have t5 := Tryz.eNoUn
  have t6 := Tryz.eNoUns
  have t7 := Tryz.fNoIs
  have t8 := Tryz.fUn
  have t9 := Tryz.fMethod
  have heq := run_eql_iface_ptr_same (P := Tryz.prog) w b Tryz.underlying88 Tryz.underlying248 hi hcmp hj
  have hty := run_eql_iface_types (P := Tryz.prog) 136 248 (.pointer (some ⟨g, 0, none⟩)) (.pointer (some b)) Tryz.underlying88 (by decide) w
  go_enter Tryz.func51, Tryz.ntmps51
  go_wp2
  refine wp_loop_rounds 2 ?_
  rw [rounds_succ]
  go_wp2
  rw [rounds_succ]
  go_wp2
  go_ret
  exact ⟨rfl, rfl⟩
end Go.Proofs.YtdhmllobgijggaaGreatDoor
namespace Go.Proofs.YtdhmllobgijggaaGreatDoor
open Go.RowKit Go.Extern.Stop Go.Stop Go.Extern

set_option maxHeartbeats 4000000 in
set_option maxRecDepth 1000000 in
theorem is_no (g : Nat) (b c : Addr) (cb cc : Array Value) (tb tc : TypeId) (w : World) (h0 : w.cell? ⟨g, 0, none⟩ = some (.iface 248 (.pointer (some c)))) (hne : c ≠ b) (hc : w.heap[c.block]? = some (.cells cc tc (0, 0))) (hb : w.heap[b.block]? = some (.cells cb tb (0, 0))) :
    Calls Tryz.prog 51 #[.iface 136 (.pointer (some ⟨g, 0, none⟩)), .iface 248 (.pointer (some b))] w fun e w' => e = .returned (.bool false) ∧ w' = w := by
  obtain ⟨i, hi, hcmp⟩ := Option.map_eq_some_iff.1 Tryz.eComp
  obtain ⟨j, hj, hjs⟩ := Option.map_eq_some_iff.1 Tryz.eSize
  have x1 := @run_callFunc_extern Tryz.prog 73 _ Extern.ReflectliteType.typeOf Tryz.func73 (by kernel_rfl) (by kernel_rfl) (by kernel_rfl) (by kernel_rfl)
  have x2 := @run_callFunc_extern Tryz.prog 177 _ (Extern.ReflectliteType.method fun t => do Rtype.noPackHeld "Comparable" t; pure (.bool (← typeInfo t).comparable)) Tryz.func177 (by kernel_rfl) (by kernel_rfl) (by kernel_rfl) (by kernel_rfl)
  have t1 := Tryz.eTypeOf
  have t2 := Tryz.eComparable
  have t3 := Tryz.eMethod
  have t4 := Tryz.eNoIs
  have t5 := Tryz.eNoUn
  have t6 := Tryz.eNoUns
  have t7 := Tryz.fNoIs
  have t8 := Tryz.fUn
  have t9 := Tryz.fMethod
  have heq := run_eql_iface_ptr_other (P := Tryz.prog) w Tryz.underlying88 Tryz.underlying248 hi hcmp hj (by rw [hjs]; decide) hne hc hb
  have hty := run_eql_iface_types (P := Tryz.prog) 136 248 (.pointer (some ⟨g, 0, none⟩)) (.pointer (some b)) Tryz.underlying88 (by decide) w
  go_enter Tryz.func51, Tryz.ntmps51
  go_wp2
  refine wp_loop_rounds 2 ?_
  rw [rounds_succ]
  go_wp2
  rw [rounds_succ]
  go_wp2
  go_ret
  exact ⟨rfl, rfl⟩
end Go.Proofs.YtdhmllobgijggaaGreatDoor
