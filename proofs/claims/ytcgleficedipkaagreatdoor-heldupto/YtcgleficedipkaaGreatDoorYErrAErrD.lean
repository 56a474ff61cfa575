/- errors.Is of a fault and a sentinel. -/
import Derived.Test.YtcgleficedipkaaGreatDoorYPatAPatC
import Derived.LaidEql
import Derived.Stop.Asserts
import Derived.RowKitTokens
namespace Go.Proofs.YtcgleficedipkaaGreatDoor
section
open Go.RowKit Go.Extern.Stop Go.Stop Go.Extern
set_option maxHeartbeats 4000000
set_option maxRecDepth 1000000
theorem Tryz.eTypeOf (v:Value)(w:World):(Extern.ReflectliteType.typeOf #[.iface 428 v]).run Tryz.prog w = .ok (.iface 283 (.agg #[.pointer (some ⟨15,428,none⟩)])) w:=by kernel_rfl
theorem Tryz.eComparable (w : World) : ((Extern.ReflectliteType.method fun t => do Rtype.noPackHeld "Comparable" t; (fun a => Value.bool a.comparable) <$> typeInfo t) #[.agg #[.pointer (some ⟨15, 428, none⟩)]]).run Tryz.prog w = .ok (.bool true) w := by kernel_rfl
theorem Tryz.eMethod (v : Value) (w : World) : (Go.method 559 283 v "Comparable").run Tryz.prog w = .ok (338, v) w := by kernel_rfl
theorem Tryz.eComp:(Tryz.prog.info? 428).map (·.comparable)=some true:=by kernel_rfl
theorem Tryz.eSize:(Tryz.prog.info? 447).map (·.size)=some 1:=by kernel_rfl
theorem Tryz.eNoIs (v:Value)(xT:TypeId)(w:World):(Instr.typeAssert (.iface 428 v) xT 285 true).run Tryz.prog w = .ok (.tuple #[.nilIface,.bool false]) w:=run_typeAssert_lacksB Tryz.underlying285 (by kernel_rfl) (by kernel_rfl) v xT w
theorem Tryz.eNoUn (v:Value)(xT:TypeId)(w:World):(Instr.typeAssert (.iface 428 v) xT 288 true).run Tryz.prog w = .ok (.tuple #[.nilIface,.bool false]) w:=run_typeAssert_lacksB Tryz.underlying288 (by kernel_rfl) (by kernel_rfl) v xT w
theorem Tryz.eNoUns (v:Value)(xT:TypeId)(w:World):(Instr.typeAssert (.iface 428 v) xT 289 true).run Tryz.prog w = .ok (.tuple #[.nilIface,.bool false]) w:=run_typeAssert_lacksB Tryz.underlying289 (by kernel_rfl) (by kernel_rfl) v xT w
theorem Tryz.fNoIs (v:Value)(xT:TypeId)(w:World):(Instr.typeAssert (.iface 122 v) xT 285 true).run Tryz.prog w = .ok (.tuple #[.nilIface,.bool false]) w:=run_typeAssert_lacksB Tryz.underlying285 (by kernel_rfl) (by kernel_rfl) v xT w
theorem Tryz.fUn (v:Value)(xT:TypeId)(w:World):(Instr.typeAssert (.iface 122 v) xT 288 true).run Tryz.prog w = .ok (.tuple #[.iface 122 v,.bool true]) w:=run_typeAssert_hasB Tryz.underlying288 (by kernel_rfl) v xT w
theorem Tryz.fMethod (v : Value) (w : World) : (Go.method 559 122 v "Unwrap").run Tryz.prog w = .ok (324, v) w := by kernel_rfl
theorem Zy (g:Nat)(b:Addr)(w:World)(h0:w.cell? ⟨g,0,none⟩=some (.iface 428 (.pointer (some b)))) :
  Calls Tryz.prog 48 #[.iface 122 (.pointer (some ⟨g,0,none⟩)),.iface 428 (.pointer (some b))] w fun e w'=>e = .returned (.bool true)∧w'=w:=by
 obtain ⟨i,hi,hcmp⟩:=Option.map_eq_some_iff.1 Tryz.eComp
 obtain ⟨j,hj,hjs⟩:=Option.map_eq_some_iff.1 Tryz.eSize
 have x1:=@run_callFunc_extern Tryz.prog 89 _ Extern.ReflectliteType.typeOf Tryz.func89 (by kernel_rfl) (by kernel_rfl) (by kernel_rfl) (by kernel_rfl)
 have x2 := @run_callFunc_extern Tryz.prog 338 _ (Extern.ReflectliteType.method fun t => do Rtype.noPackHeld "Comparable" t; pure (.bool (← typeInfo t).comparable)) Tryz.func338 (by kernel_rfl) (by kernel_rfl) (by kernel_rfl) (by kernel_rfl)
 have t1:=Tryz.eTypeOf
 have t2:=Tryz.eComparable
 have t3:=Tryz.eMethod
 have t4:=Tryz.eNoIs
 have t5:=Tryz.eNoUn
 have t6:=Tryz.eNoUns
 have t7:=Tryz.fNoIs
 have t8:=Tryz.fUn
 have t9:=Tryz.fMethod
 have heq:=run_eql_iface_ptr_same (P:=Tryz.prog) w b Tryz.underlying84 Tryz.underlying428 hi hcmp hj
 have hty:=run_eql_iface_types (P:=Tryz.prog) 122 428 (.pointer (some ⟨g,0,none⟩)) (.pointer (some b)) Tryz.underlying84 (by decide) w
 go_enter Tryz.func48,Tryz.ntmps48
 go_wp2
 refine wp_loop_rounds 2 ?_
 rw [rounds_succ]
 go_wp2
 rw [rounds_succ]
 go_wp2
 go_ret
 exact ⟨rfl,rfl⟩
theorem is_no (g:Nat)(b c:Addr)(cb cc:Array Value)(tb tc:TypeId)(w:World)(h0:w.cell? ⟨g,0,none⟩=some (.iface 428 (.pointer (some c))))(hne:c≠b)(hc:w.heap[c.block]?=some (.cells cc tc (0,0)))(hb:w.heap[b.block]?=some (.cells cb tb (0,0))) :
  Calls Tryz.prog 48 #[.iface 122 (.pointer (some ⟨g,0,none⟩)),.iface 428 (.pointer (some b))] w fun e w'=>e = .returned (.bool false)∧w'=w:=by
 obtain ⟨i,hi,hcmp⟩:=Option.map_eq_some_iff.1 Tryz.eComp
 obtain ⟨j,hj,hjs⟩:=Option.map_eq_some_iff.1 Tryz.eSize
 have x1:=@run_callFunc_extern Tryz.prog 89 _ Extern.ReflectliteType.typeOf Tryz.func89 (by kernel_rfl) (by kernel_rfl) (by kernel_rfl) (by kernel_rfl)
 have x2 := @run_callFunc_extern Tryz.prog 338 _ (Extern.ReflectliteType.method fun t => do Rtype.noPackHeld "Comparable" t; pure (.bool (← typeInfo t).comparable)) Tryz.func338 (by kernel_rfl) (by kernel_rfl) (by kernel_rfl) (by kernel_rfl)
 have t1:=Tryz.eTypeOf
 have t2:=Tryz.eComparable
 have t3:=Tryz.eMethod
 have t4:=Tryz.eNoIs
 have t5:=Tryz.eNoUn
 have t6:=Tryz.eNoUns
 have t7:=Tryz.fNoIs
 have t8:=Tryz.fUn
 have t9:=Tryz.fMethod
 have heq:=run_eql_iface_ptr_other (P:=Tryz.prog) w Tryz.underlying84 Tryz.underlying428 hi hcmp hj (by rw [hjs];decide) hne hc hb
 have hty:=run_eql_iface_types (P:=Tryz.prog) 122 428 (.pointer (some ⟨g,0,none⟩)) (.pointer (some b)) Tryz.underlying84 (by decide) w
 go_enter Tryz.func48,Tryz.ntmps48
 go_wp2
 refine wp_loop_rounds 2 ?_
 rw [rounds_succ]
 go_wp2
 rw [rounds_succ]
 go_wp2
 go_ret
 exact ⟨rfl,rfl⟩
end
section
open Go.RowKit
set_option maxHeartbeats 2000000
set_option maxRecDepth 1000000
structure zB (w:World)(a:Nat→Addr):Prop where
 row:∀ k,1≤k→k≤10→∃ c t,w.heap[(a k).block]?=some (.cells c t (0,0))
 ne:∀ j k,1≤j→j≤10→1≤k→k≤10→j≠k→a j≠a k
 s9:w.cell? ⟨0,0,none⟩=some (zN a 9)
 s10:w.cell? ⟨8,0,none⟩=some (zN a 10)
theorem zB.keep {w w':World}{a:Nat→Addr}(h:zB w a)(k:ze (fun _=>False) w w'):zB w' a:=
 ⟨fun j h1 h2=>by
  obtain ⟨c,t,hc⟩:=h.row j h1 h2
  exact ⟨c,t,(k.block _ (Array.getElem?_eq_some_iff.1 hc).1 (fun f=>f)).trans hc⟩,h.ne,(k.cell (World.block_lt_of_cell? w _ h.s9) (fun f=>f)).trans h.s9,(k.cell (World.block_lt_of_cell? w _ h.s10) (fun f=>f)).trans h.s10⟩
theorem zB.is_no {w:World}{a:Nat→Addr}(h:zB w a)(g j k:Nat)(h0:w.cell? ⟨g,0,none⟩=some (zN a k))(j1:1≤j)(j2:j≤10)(k1:1≤k)(k2:k≤10)(hne:k≠j) :
  Calls Tryz.prog 48 #[.iface 122 (.pointer (some ⟨g,0,none⟩)),.iface 428 (.pointer (some (a j)))] w fun e w'=>e = .returned (.bool false)∧w'=w:=by
 obtain ⟨cb,tb,hb⟩:=h.row j j1 j2
 obtain ⟨cc,tc,hc⟩:=h.row k k1 k2
 exact _root_.Go.Proofs.YtcgleficedipkaaGreatDoor.is_no g (a j) (a k) cb cc tb tc w h0 (fun e=>h.ne k j k1 k2 j1 j2 hne e) hc hb
theorem number_1 (g:Nat)(a:Nat→Addr)(w:World)(hS:zW w a)(h0:w.cell? ⟨g,0,none⟩=some (zN a 1)) :
  Calls Tryz.prog 25 #[.iface 122 (.pointer (some ⟨g,0,none⟩))] w fun e w'=>e = .returned (.int .i64 1)∧w'=w:=by
 have C1:=zc (Zy g (a 1) w h0)
 obtain ⟨s1,s2,s3,s4,s5,s6,s7,s8⟩:=hS
 clear h0 s3
 unfold zN at s1 s2 s4 s5 s6 s7 s8
 go_enter Tryz.func25,Tryz.ntmps25
 go_wp2_with (first |(go_at_call 48;with_reducible refine (zb C1).mono ?_;rintro e wq ⟨rfl,hwq⟩;obtain rfl:=hwq.symm;clear hwq C1))
 go_ret
 exact ⟨rfl,rfl⟩
theorem number_2 (g:Nat)(a:Nat→Addr)(w:World)(hS:zW w a)(hR:zB w a)(h0:w.cell? ⟨g,0,none⟩=some (zN a 2)) :
  Calls Tryz.prog 25 #[.iface 122 (.pointer (some ⟨g,0,none⟩))] w fun e w'=>e = .returned (.int .i64 2)∧w'=w:=by
 have C1:=zc (zB.is_no hR g 1 2 h0 (by decide) (by decide) (by decide) (by decide) (by decide))
 have C2:=zc (Zy g (a 2) w h0)
 obtain ⟨s1,s2,s3,s4,s5,s6,s7,s8⟩:=hS
 clear hR h0 s3
 unfold zN at s1 s2 s4 s5 s6 s7 s8
 go_enter Tryz.func25,Tryz.ntmps25
 go_wp2_with (first |(go_at_call 48;with_reducible refine (zb C1).mono ?_;rintro e wq ⟨rfl,hwq⟩;obtain rfl:=hwq.symm;clear hwq C1) |(go_at_call 48;with_reducible refine (zb C2).mono ?_;rintro e wq ⟨rfl,hwq⟩;obtain rfl:=hwq.symm;clear hwq C2))
 go_ret
 exact ⟨rfl,rfl⟩
theorem number_3 (g:Nat)(a:Nat→Addr)(w:World)(hS:zW w a)(hR:zB w a)(h0:w.cell? ⟨g,0,none⟩=some (zN a 3)) :
  Calls Tryz.prog 25 #[.iface 122 (.pointer (some ⟨g,0,none⟩))] w fun e w'=>e = .returned (.int .i64 3)∧w'=w:=by
 have C1:=zc (zB.is_no hR g 1 3 h0 (by decide) (by decide) (by decide) (by decide) (by decide))
 have C2:=zc (zB.is_no hR g 2 3 h0 (by decide) (by decide) (by decide) (by decide) (by decide))
 have C4:=zc (zB.is_no hR g 4 3 h0 (by decide) (by decide) (by decide) (by decide) (by decide))
 have C5:=zc (zB.is_no hR g 5 3 h0 (by decide) (by decide) (by decide) (by decide) (by decide))
 have C6:=zc (zB.is_no hR g 6 3 h0 (by decide) (by decide) (by decide) (by decide) (by decide))
 have C7:=zc (zB.is_no hR g 7 3 h0 (by decide) (by decide) (by decide) (by decide) (by decide))
 have C8:=zc (zB.is_no hR g 8 3 h0 (by decide) (by decide) (by decide) (by decide) (by decide))
 have C9:=zc (zB.is_no hR g 9 3 h0 (by decide) (by decide) (by decide) (by decide) (by decide))
 have C10:=zc (zB.is_no hR g 10 3 h0 (by decide) (by decide) (by decide) (by decide) (by decide))
 obtain ⟨_,_,s9,s10⟩:=hR
 obtain ⟨s1,s2,s3,s4,s5,s6,s7,s8⟩:=hS
 clear h0 s3
 unfold zN at s1 s2 s4 s5 s6 s7 s8 s9 s10
 go_enter Tryz.func25,Tryz.ntmps25
 go_wp2_with (first |(go_at_call 48;with_reducible refine (zb C1).mono ?_;rintro e wq ⟨rfl,hwq⟩;obtain rfl:=hwq.symm;clear hwq C1) |(go_at_call 48;with_reducible refine (zb C2).mono ?_;rintro e wq ⟨rfl,hwq⟩;obtain rfl:=hwq.symm;clear hwq C2) |(go_at_call 48;with_reducible refine (zb C4).mono ?_;rintro e wq ⟨rfl,hwq⟩;obtain rfl:=hwq.symm;clear hwq C4) |(go_at_call 48;with_reducible refine (zb C5).mono ?_;rintro e wq ⟨rfl,hwq⟩;obtain rfl:=hwq.symm;clear hwq C5) |(go_at_call 48;with_reducible refine (zb C6).mono ?_;rintro e wq ⟨rfl,hwq⟩;obtain rfl:=hwq.symm;clear hwq C6) |(go_at_call 48;with_reducible refine (zb C7).mono ?_;rintro e wq ⟨rfl,hwq⟩;obtain rfl:=hwq.symm;clear hwq C7) |(go_at_call 48;with_reducible refine (zb C8).mono ?_;rintro e wq ⟨rfl,hwq⟩;obtain rfl:=hwq.symm;clear hwq C8) |(go_at_call 48;with_reducible refine (zb C9).mono ?_;rintro e wq ⟨rfl,hwq⟩;obtain rfl:=hwq.symm;clear hwq C9) |(go_at_call 48;with_reducible refine (zb C10).mono ?_;rintro e wq ⟨rfl,hwq⟩;obtain rfl:=hwq.symm;clear hwq C10))
 go_ret
 exact ⟨rfl,rfl⟩
theorem number_4 (g:Nat)(a:Nat→Addr)(w:World)(hS:zW w a)(hR:zB w a)(h0:w.cell? ⟨g,0,none⟩=some (zN a 4)) :
  Calls Tryz.prog 25 #[.iface 122 (.pointer (some ⟨g,0,none⟩))] w fun e w'=>e = .returned (.int .i64 4)∧w'=w:=by
 have C1:=zc (zB.is_no hR g 1 4 h0 (by decide) (by decide) (by decide) (by decide) (by decide))
 have C2:=zc (zB.is_no hR g 2 4 h0 (by decide) (by decide) (by decide) (by decide) (by decide))
 have C4:=zc (Zy g (a 4) w h0)
 obtain ⟨s1,s2,s3,s4,s5,s6,s7,s8⟩:=hS
 clear hR h0 s3
 unfold zN at s1 s2 s4 s5 s6 s7 s8
 go_enter Tryz.func25,Tryz.ntmps25
 go_wp2_with (first |(go_at_call 48;with_reducible refine (zb C1).mono ?_;rintro e wq ⟨rfl,hwq⟩;obtain rfl:=hwq.symm;clear hwq C1) |(go_at_call 48;with_reducible refine (zb C2).mono ?_;rintro e wq ⟨rfl,hwq⟩;obtain rfl:=hwq.symm;clear hwq C2) |(go_at_call 48;with_reducible refine (zb C4).mono ?_;rintro e wq ⟨rfl,hwq⟩;obtain rfl:=hwq.symm;clear hwq C4))
 go_ret
 exact ⟨rfl,rfl⟩
theorem number_5 (g:Nat)(a:Nat→Addr)(w:World)(hS:zW w a)(hR:zB w a)(h0:w.cell? ⟨g,0,none⟩=some (zN a 5)) :
  Calls Tryz.prog 25 #[.iface 122 (.pointer (some ⟨g,0,none⟩))] w fun e w'=>e = .returned (.int .i64 5)∧w'=w:=by
 have C1:=zc (zB.is_no hR g 1 5 h0 (by decide) (by decide) (by decide) (by decide) (by decide))
 have C2:=zc (zB.is_no hR g 2 5 h0 (by decide) (by decide) (by decide) (by decide) (by decide))
 have C4:=zc (zB.is_no hR g 4 5 h0 (by decide) (by decide) (by decide) (by decide) (by decide))
 have C5:=zc (Zy g (a 5) w h0)
 obtain ⟨s1,s2,s3,s4,s5,s6,s7,s8⟩:=hS
 clear hR h0 s3
 unfold zN at s1 s2 s4 s5 s6 s7 s8
 go_enter Tryz.func25,Tryz.ntmps25
 go_wp2_with (first |(go_at_call 48;with_reducible refine (zb C1).mono ?_;rintro e wq ⟨rfl,hwq⟩;obtain rfl:=hwq.symm;clear hwq C1) |(go_at_call 48;with_reducible refine (zb C2).mono ?_;rintro e wq ⟨rfl,hwq⟩;obtain rfl:=hwq.symm;clear hwq C2) |(go_at_call 48;with_reducible refine (zb C4).mono ?_;rintro e wq ⟨rfl,hwq⟩;obtain rfl:=hwq.symm;clear hwq C4) |(go_at_call 48;with_reducible refine (zb C5).mono ?_;rintro e wq ⟨rfl,hwq⟩;obtain rfl:=hwq.symm;clear hwq C5))
 go_ret
 exact ⟨rfl,rfl⟩
theorem number_6 (g:Nat)(a:Nat→Addr)(w:World)(hS:zW w a)(hR:zB w a)(h0:w.cell? ⟨g,0,none⟩=some (zN a 6)) :
  Calls Tryz.prog 25 #[.iface 122 (.pointer (some ⟨g,0,none⟩))] w fun e w'=>e = .returned (.int .i64 6)∧w'=w:=by
 have C1:=zc (zB.is_no hR g 1 6 h0 (by decide) (by decide) (by decide) (by decide) (by decide))
 have C2:=zc (zB.is_no hR g 2 6 h0 (by decide) (by decide) (by decide) (by decide) (by decide))
 have C4:=zc (zB.is_no hR g 4 6 h0 (by decide) (by decide) (by decide) (by decide) (by decide))
 have C5:=zc (zB.is_no hR g 5 6 h0 (by decide) (by decide) (by decide) (by decide) (by decide))
 have C6:=zc (Zy g (a 6) w h0)
 obtain ⟨s1,s2,s3,s4,s5,s6,s7,s8⟩:=hS
 clear hR h0 s3
 unfold zN at s1 s2 s4 s5 s6 s7 s8
 go_enter Tryz.func25,Tryz.ntmps25
 go_wp2_with (first |(go_at_call 48;with_reducible refine (zb C1).mono ?_;rintro e wq ⟨rfl,hwq⟩;obtain rfl:=hwq.symm;clear hwq C1) |(go_at_call 48;with_reducible refine (zb C2).mono ?_;rintro e wq ⟨rfl,hwq⟩;obtain rfl:=hwq.symm;clear hwq C2) |(go_at_call 48;with_reducible refine (zb C4).mono ?_;rintro e wq ⟨rfl,hwq⟩;obtain rfl:=hwq.symm;clear hwq C4) |(go_at_call 48;with_reducible refine (zb C5).mono ?_;rintro e wq ⟨rfl,hwq⟩;obtain rfl:=hwq.symm;clear hwq C5) |(go_at_call 48;with_reducible refine (zb C6).mono ?_;rintro e wq ⟨rfl,hwq⟩;obtain rfl:=hwq.symm;clear hwq C6))
 go_ret
 exact ⟨rfl,rfl⟩
theorem number_7 (g:Nat)(a:Nat→Addr)(w:World)(hS:zW w a)(hR:zB w a)(h0:w.cell? ⟨g,0,none⟩=some (zN a 7)) :
  Calls Tryz.prog 25 #[.iface 122 (.pointer (some ⟨g,0,none⟩))] w fun e w'=>e = .returned (.int .i64 7)∧w'=w:=by
 have C1:=zc (zB.is_no hR g 1 7 h0 (by decide) (by decide) (by decide) (by decide) (by decide))
 have C2:=zc (zB.is_no hR g 2 7 h0 (by decide) (by decide) (by decide) (by decide) (by decide))
 have C4:=zc (zB.is_no hR g 4 7 h0 (by decide) (by decide) (by decide) (by decide) (by decide))
 have C5:=zc (zB.is_no hR g 5 7 h0 (by decide) (by decide) (by decide) (by decide) (by decide))
 have C6:=zc (zB.is_no hR g 6 7 h0 (by decide) (by decide) (by decide) (by decide) (by decide))
 have C7:=zc (Zy g (a 7) w h0)
 obtain ⟨s1,s2,s3,s4,s5,s6,s7,s8⟩:=hS
 clear hR h0 s3
 unfold zN at s1 s2 s4 s5 s6 s7 s8
 go_enter Tryz.func25,Tryz.ntmps25
 go_wp2_with (first |(go_at_call 48;with_reducible refine (zb C1).mono ?_;rintro e wq ⟨rfl,hwq⟩;obtain rfl:=hwq.symm;clear hwq C1) |(go_at_call 48;with_reducible refine (zb C2).mono ?_;rintro e wq ⟨rfl,hwq⟩;obtain rfl:=hwq.symm;clear hwq C2) |(go_at_call 48;with_reducible refine (zb C4).mono ?_;rintro e wq ⟨rfl,hwq⟩;obtain rfl:=hwq.symm;clear hwq C4) |(go_at_call 48;with_reducible refine (zb C5).mono ?_;rintro e wq ⟨rfl,hwq⟩;obtain rfl:=hwq.symm;clear hwq C5) |(go_at_call 48;with_reducible refine (zb C6).mono ?_;rintro e wq ⟨rfl,hwq⟩;obtain rfl:=hwq.symm;clear hwq C6) |(go_at_call 48;with_reducible refine (zb C7).mono ?_;rintro e wq ⟨rfl,hwq⟩;obtain rfl:=hwq.symm;clear hwq C7))
 go_ret
 exact ⟨rfl,rfl⟩
theorem number_8 (g:Nat)(a:Nat→Addr)(w:World)(hS:zW w a)(hR:zB w a)(h0:w.cell? ⟨g,0,none⟩=some (zN a 8)) :
  Calls Tryz.prog 25 #[.iface 122 (.pointer (some ⟨g,0,none⟩))] w fun e w'=>e = .returned (.int .i64 8)∧w'=w:=by
 have C1:=zc (zB.is_no hR g 1 8 h0 (by decide) (by decide) (by decide) (by decide) (by decide))
 have C2:=zc (zB.is_no hR g 2 8 h0 (by decide) (by decide) (by decide) (by decide) (by decide))
 have C4:=zc (zB.is_no hR g 4 8 h0 (by decide) (by decide) (by decide) (by decide) (by decide))
 have C5:=zc (zB.is_no hR g 5 8 h0 (by decide) (by decide) (by decide) (by decide) (by decide))
 have C6:=zc (zB.is_no hR g 6 8 h0 (by decide) (by decide) (by decide) (by decide) (by decide))
 have C7:=zc (zB.is_no hR g 7 8 h0 (by decide) (by decide) (by decide) (by decide) (by decide))
 have C8:=zc (Zy g (a 8) w h0)
 obtain ⟨s1,s2,s3,s4,s5,s6,s7,s8⟩:=hS
 clear hR h0 s3
 unfold zN at s1 s2 s4 s5 s6 s7 s8
 go_enter Tryz.func25,Tryz.ntmps25
 go_wp2_with (first |(go_at_call 48;with_reducible refine (zb C1).mono ?_;rintro e wq ⟨rfl,hwq⟩;obtain rfl:=hwq.symm;clear hwq C1) |(go_at_call 48;with_reducible refine (zb C2).mono ?_;rintro e wq ⟨rfl,hwq⟩;obtain rfl:=hwq.symm;clear hwq C2) |(go_at_call 48;with_reducible refine (zb C4).mono ?_;rintro e wq ⟨rfl,hwq⟩;obtain rfl:=hwq.symm;clear hwq C4) |(go_at_call 48;with_reducible refine (zb C5).mono ?_;rintro e wq ⟨rfl,hwq⟩;obtain rfl:=hwq.symm;clear hwq C5) |(go_at_call 48;with_reducible refine (zb C6).mono ?_;rintro e wq ⟨rfl,hwq⟩;obtain rfl:=hwq.symm;clear hwq C6) |(go_at_call 48;with_reducible refine (zb C7).mono ?_;rintro e wq ⟨rfl,hwq⟩;obtain rfl:=hwq.symm;clear hwq C7) |(go_at_call 48;with_reducible refine (zb C8).mono ?_;rintro e wq ⟨rfl,hwq⟩;obtain rfl:=hwq.symm;clear hwq C8))
 go_ret
 exact ⟨rfl,rfl⟩
theorem vX (g k:Nat)(a:Nat→Addr)(w:World)(hS:zW w a)(hR:zB w a)(k1:1≤k)(k2:k≤8)(h0:w.cell? ⟨g,0,none⟩=some (zN a k)) :
  Calls Tryz.prog 25 #[.iface 122 (.pointer (some ⟨g,0,none⟩))] w fun e w'=>e = .returned (.int .i64 k)∧w'=w:=by
 match k,k1,k2,h0 with
 |1,_,_,h0=>exact number_1 g a w hS h0
 |2,_,_,h0=>exact number_2 g a w hS hR h0
 |3,_,_,h0=>exact number_3 g a w hS hR h0
 |4,_,_,h0=>exact number_4 g a w hS hR h0
 |5,_,_,h0=>exact number_5 g a w hS hR h0
 |6,_,_,h0=>exact number_6 g a w hS hR h0
 |7,_,_,h0=>exact number_7 g a w hS hR h0
 |8,_,_,h0=>exact number_8 g a w hS hR h0
 |0,k1,_,_=>exact absurd k1 (by decide)
 |k+9,_,k2,_=>exact absurd k2 (by omega)
end
section
open Go.RowKit Go.Extern.Stop Go.Stop Go.Extern
set_option maxHeartbeats 4000000
set_option maxRecDepth 1000000
theorem Tryz.rValueOfPP (t:Addr)(w:World):(ReflectliteValue.unpack (.iface 124 (.pointer (some t)))).run Tryz.prog w
  = .ok (.agg #[.pointer (some ⟨15,124,none⟩),.pointer (some ⟨w.heap.size,0,none⟩),.int .u64 150]) (w.alloc (.cells #[.pointer (some t)] 124)):=by kernel_rfl
theorem Tryz.rTypePP (a : Addr) (w : World) : (ReflectliteValue.methodAny (ReflectliteValue.valueError "reflectlite.Value.Type" 0) (fun t _ _ _ => ReflectliteType.toType t) #[.agg #[.pointer (some ⟨15, 124, none⟩), .pointer (some a), .int .u64 150]]).run Tryz.prog w
  = .ok (.iface 283 (.agg #[.pointer (some ⟨15,124,none⟩)])) w:=by kernel_rfl
theorem Tryz.rMethodKind (h : Value) (w : World) : (Go.method 559 283 (.agg #[h]) "Kind").run Tryz.prog w = .ok (320, h) w := by kernel_rfl
theorem Tryz.rKindPP (w:World):((ReflectliteType.abiMethod fun t=>(fun a:Nat=>Value.int IntKind.u8 (a:Int)) <$> Rtype.kind t) #[.pointer (some ⟨15,124,none⟩)]).run Tryz.prog w = .ok (.int .u8 22) w:=by kernel_rfl
theorem Tryz.rKindP (w:World):((ReflectliteType.abiMethod fun t=>(fun a:Nat=>Value.int IntKind.u8 (a:Int)) <$> Rtype.kind t) #[.pointer (some ⟨15,122,none⟩)]).run Tryz.prog w = .ok (.int .u8 22) w:=by kernel_rfl
theorem Tryz.rPartsPP (a:Addr)(w:World):(ReflectliteValue.parts (.agg #[.pointer (some ⟨15,124,none⟩),.pointer (some a),.int .u64 150])).run Tryz.prog w = .ok (some (124,a,150)) w:=by kernel_rfl
theorem Tryz.rIsNilPP (a p:Addr)(W:World)(ha:W.cell? a=some (.pointer (some p))) :
  (ReflectliteValue.method (ReflectliteValue.valueError "reflectlite.Value.IsNil" 0) ReflectliteValue.isNil #[.agg #[.pointer (some ⟨15, 124, none⟩), .pointer (some a), .int .u64 150]]).run Tryz.prog W = .ok (.bool false) W := by
 show (ReflectliteValue.parts (.agg #[.pointer (some ⟨15,124,none⟩),.pointer (some a),.int .u64 150]) >>= _:Sem Value).run Tryz.prog W=_
 simp only [Sem.run_bind,Tryz.rPartsPP,Result.andThen]
 simp [ReflectliteValue.isNil,loadVar,isAgg,underlying,Tryz.underlying124,ha,Result.andThen]
theorem Tryz.rMethodElem (h : Value) (w : World) : (Go.method 559 283 (.agg #[h]) "Elem").run Tryz.prog w = .ok (339, .agg #[h]) w := by kernel_rfl
theorem Tryz.rMethodImplements (h : Value) (w : World) : (Go.method 559 283 (.agg #[h]) "Implements").run Tryz.prog w = .ok (340, .agg #[h]) w := by kernel_rfl
theorem Tryz.rMethodAssignableTo (h : Value) (w : World) : (Go.method 559 283 (.agg #[h]) "AssignableTo").run Tryz.prog w = .ok (337, .agg #[h]) w := by kernel_rfl
theorem Tryz.rElemPP (w:World):(ReflectliteType.method ReflectliteType.elem #[.agg #[.pointer (some ⟨15,124,none⟩)]]).run Tryz.prog w = .ok (.iface 283 (.agg #[.pointer (some ⟨15,122,none⟩)])) w:=by kernel_rfl
theorem Tryz.rImplementsP (w : World) : (ReflectliteType.relation "Implements" ReflectliteType.implements_ #[.agg #[.pointer (some ⟨15, 122, none⟩)], .iface 283 (.agg #[.pointer (some ⟨15, 84, none⟩)])]).run Tryz.prog w = .ok (.bool true) w := by kernel_rfl
theorem Tryz.rTypeOfP (v:Value)(w:World):(ReflectliteType.typeOf #[.iface 122 v]).run Tryz.prog w = .ok (.iface 283 (.agg #[.pointer (some ⟨15,122,none⟩)])) w:=by kernel_rfl
theorem Tryz.rAssignableP (w : World) : (ReflectliteType.relation "AssignableTo" ReflectliteType.assignableTo #[.agg #[.pointer (some ⟨15, 122, none⟩)], .iface 283 (.agg #[.pointer (some ⟨15, 122, none⟩)])]).run Tryz.prog w = .ok (.bool true) w := by kernel_rfl
theorem Tryz.rValueOfP (e:Addr)(w:World):(ReflectliteValue.unpack (.iface 122 (.pointer (some e)))).run Tryz.prog w
  = .ok (.agg #[.pointer (some ⟨15,122,none⟩),.pointer (some ⟨w.heap.size,0,none⟩),.int .u64 150]) (w.alloc (.cells #[.pointer (some e)] 122)):=by kernel_rfl
theorem Tryz.rElemOfPP (w:World):(Rtype.elem? 124).run Tryz.prog w = .ok (some 122) w:=by kernel_rfl
theorem Tryz.rMkP (p:Addr)(w:World):(ReflectliteValue.mk 122 p ReflectliteValue.flagAddr).run Tryz.prog w = .ok (.agg #[.pointer (some ⟨15,122,none⟩),.pointer (some p),.int .u64 406]) w:=by kernel_rfl
theorem Tryz.rElemVPP (a p:Addr)(W:World)(ha:W.cell? a=some (.pointer (some p))) :
  (ReflectliteValue.method (ReflectliteValue.valueError "reflectlite.Value.Elem" 0) ReflectliteValue.elem #[.agg #[.pointer (some ⟨15, 124, none⟩), .pointer (some a), .int .u64 150]]).run Tryz.prog W
   = .ok (.agg #[.pointer (some ⟨15,122,none⟩),.pointer (some p),.int .u64 406]) W:=by
 show (ReflectliteValue.parts (.agg #[.pointer (some ⟨15,124,none⟩),.pointer (some a),.int .u64 150]) >>= _:Sem Value).run Tryz.prog W=_
 simp only [Sem.run_bind,Tryz.rPartsPP,Result.andThen]
 simp [ReflectliteValue.elem,loadVar,isAgg,underlying,Tryz.underlying124,ha,Result.andThen,Tryz.rElemOfPP,Tryz.rMkP]
theorem Tryz.rPartsPa (a:Addr)(w:World):(ReflectliteValue.parts (.agg #[.pointer (some ⟨15,122,none⟩),.pointer (some a),.int .u64 406])).run Tryz.prog w = .ok (some (122,a,406)) w:=by kernel_rfl
theorem Tryz.rPartsP (a:Addr)(w:World):(ReflectliteValue.parts (.agg #[.pointer (some ⟨15,122,none⟩),.pointer (some a),.int .u64 150])).run Tryz.prog w = .ok (some (122,a,150)) w:=by kernel_rfl
theorem Tryz.rDirectP (w:World):(Rtype.directlyAssignable 122 122).run Tryz.prog w = .ok true w:=by kernel_rfl
theorem Tryz.rSetP (ta b e:Addr)(old:Value)(W:World)(hb:W.cell? b=some (.pointer (some e)))(ht:W.cell? ta=some old)(hf:W.frozen? ta=false) :
  (ReflectliteValue.set #[.agg #[.pointer (some ⟨15,122,none⟩),.pointer (some ta),.int .u64 406],.agg #[.pointer (some ⟨15,122,none⟩),.pointer (some b),.int .u64 150]]).run Tryz.prog W
   = .ok (.tuple #[]) (W.setCell ta (.pointer (some e))):=by
 show (ReflectliteValue.parts (.agg #[.pointer (some ⟨15,122,none⟩),.pointer (some ta),.int .u64 406]) >>= fun y=>ReflectliteValue.parts (.agg #[.pointer (some ⟨15,122,none⟩),.pointer (some b),.int .u64 150]) >>= _:Sem Value).run Tryz.prog W=_
 simp only [Sem.run_bind,Tryz.rPartsPa,Tryz.rPartsP,Result.andThen]
 simp [ReflectliteValue.flagAddr,loadVar,isAgg,underlying,Tryz.underlying122,hb,Result.andThen,Tryz.rDirectP,storeVar,Value.cells,storeCells,Addr.add]
 rw [run_store Tryz.prog W ta _ _ (by rfl)]
 simp [ht,hf]
theorem as_hit (e t:Addr)(old:Value)(w:World)(hg:w.cell? ⟨9,0,none⟩=some (.iface 283 (.agg #[.pointer (some ⟨15,84,none⟩)])))(ht0:w.cell? t=some old)(hf0:w.frozen? t=false) :
  Calls Tryz.prog 49 #[.iface 122 (.pointer (some e)),.iface 124 (.pointer (some t))] w fun ev w'=>ev = .returned (.bool true)∧w'=((((w.alloc (.cells #[.pointer (some t)] 124)).alloc (.cells #[.pointer (some ⟨15,124,none⟩),.pointer (some ⟨w.heap.size,0,none⟩),.int .u64 150] 213)).alloc (.cells #[.pointer (some ⟨15,124,none⟩),.pointer (some ⟨w.heap.size,0,none⟩),.int .u64 150] 213)).alloc (.cells #[.pointer (some e)] 122)).setCell t (.pointer (some e)):=by
 have h6:=@run_callFunc_extern Tryz.prog 91 _ (fun args=>ReflectliteValue.unpack (args.getD 0 (.tuple #[]))) Tryz.func91 (by kernel_rfl) (by kernel_rfl) (by kernel_rfl) (by kernel_rfl)
 have h7 := @run_callFunc_extern Tryz.prog 92 _ (ReflectliteValue.methodAny (ReflectliteValue.valueError "reflectlite.Value.Type" 0) (fun t _ _ _ => ReflectliteType.toType t)) Tryz.func92 (by kernel_rfl) (by kernel_rfl) (by kernel_rfl) (by kernel_rfl)
 have h8 := @run_callFunc_extern Tryz.prog 93 _ (ReflectliteValue.method (ReflectliteValue.valueError "reflectlite.Value.IsNil" 0) ReflectliteValue.isNil) Tryz.func93 (by kernel_rfl) (by kernel_rfl) (by kernel_rfl) (by kernel_rfl)
 have h27:=@run_callFunc_extern Tryz.prog 320 _ (ReflectliteType.abiMethod fun t=>do pure (.int .u8 (←Rtype.kind t))) Tryz.func320 (by kernel_rfl) (by kernel_rfl) (by kernel_rfl) (by kernel_rfl)
 have h37:=@run_callFunc_extern Tryz.prog 339 _ (ReflectliteType.method ReflectliteType.elem) Tryz.func339 (by kernel_rfl) (by kernel_rfl) (by kernel_rfl) (by kernel_rfl)
 have h38 := @run_callFunc_extern Tryz.prog 340 _ (ReflectliteType.relation "Implements" ReflectliteType.implements_) Tryz.func340 (by kernel_rfl) (by kernel_rfl) (by kernel_rfl) (by kernel_rfl)
 have h10:=@run_callFunc_extern Tryz.prog 89 _ ReflectliteType.typeOf Tryz.func89 (by kernel_rfl) (by kernel_rfl) (by kernel_rfl) (by kernel_rfl)
 have h35 := @run_callFunc_extern Tryz.prog 337 _ (ReflectliteType.relation "AssignableTo" ReflectliteType.assignableTo) Tryz.func337 (by kernel_rfl) (by kernel_rfl) (by kernel_rfl) (by kernel_rfl)
 have h11 := @run_callFunc_extern Tryz.prog 137 _ (ReflectliteValue.method (ReflectliteValue.valueError "reflectlite.Value.Elem" 0) ReflectliteValue.elem) Tryz.func137 (by kernel_rfl) (by kernel_rfl) (by kernel_rfl) (by kernel_rfl)
 have h12:=@run_callFunc_extern Tryz.prog 138 _ ReflectliteValue.set Tryz.func138 (by kernel_rfl) (by kernel_rfl) (by kernel_rfl) (by kernel_rfl)
 have tO:=Tryz.rTypeOfP
 have mA:=Tryz.rMethodAssignableTo
 have aP:=Tryz.rAssignableP
 have vP:=Tryz.rValueOfP
 have f6:=Tryz.rValueOfPP
 have f7:=Tryz.rTypePP
 have mK:=Tryz.rMethodKind
 have mE:=Tryz.rMethodElem
 have mI:=Tryz.rMethodImplements
 have kPP:=Tryz.rKindPP
 have kP:=Tryz.rKindP
 have ePP:=Tryz.rElemPP
 have iP:=Tryz.rImplementsP
 have n8:=Tryz.rIsNilPP ⟨w.heap.size,0,none⟩ t ((w.alloc (.cells #[.pointer (some t)] 124)).alloc (.cells #[.pointer (some ⟨15,124,none⟩),.pointer (some ⟨w.heap.size,0,none⟩),.int .u64 150] 213)) (by simp)
 have hlt:9<w.heap.size:=World.block_lt_of_cell? w ⟨9,0,none⟩ hg
 have hg2:((w.alloc (.cells #[.pointer (some t)] 124)).alloc (.cells #[.pointer (some ⟨15,124,none⟩),.pointer (some ⟨w.heap.size,0,none⟩),.int .u64 150] 213)).cell? ⟨9,0,none⟩=some (.iface 283 (.agg #[.pointer (some ⟨15,84,none⟩)])):=by
  rw [World.cell?_alloc_lt _ _ ⟨9,0,none⟩ (by simp;omega),World.cell?_alloc_lt _ _ ⟨9,0,none⟩ hlt];exact hg
 have htl:t.block<w.heap.size:=World.block_lt_of_cell? w t ht0
 have el:=Tryz.rElemVPP ⟨w.heap.size,0,none⟩ t (((w.alloc (.cells #[.pointer (some t)] 124)).alloc (.cells #[.pointer (some ⟨15,124,none⟩),.pointer (some ⟨w.heap.size,0,none⟩),.int .u64 150] 213)).alloc (.cells #[.pointer (some ⟨15,124,none⟩),.pointer (some ⟨w.heap.size,0,none⟩),.int .u64 150] 213)) (by rw [World.cell?_alloc_lt _ _ ⟨w.heap.size,0,none⟩ (by simp;omega)];simp)
 have st:=Tryz.rSetP t ⟨w.heap.size+1+1+1,0,none⟩ e old ((((w.alloc (.cells #[.pointer (some t)] 124)).alloc (.cells #[.pointer (some ⟨15,124,none⟩),.pointer (some ⟨w.heap.size,0,none⟩),.int .u64 150] 213)).alloc (.cells #[.pointer (some ⟨15,124,none⟩),.pointer (some ⟨w.heap.size,0,none⟩),.int .u64 150] 213)).alloc (.cells #[.pointer (some e)] 122))
  (by rw [World.cell?_alloc_at _ _ _ _ (by simp)];rfl)
  (by rw [World.cell?_alloc_lt _ _ t (by simp;omega),World.cell?_alloc_lt _ _ t (by simp;omega),World.cell?_alloc_lt _ _ t (by simp;omega),World.cell?_alloc_lt _ _ t htl];exact ht0)
  (by rw [World.frozen?_alloc_old _ _ t (by simp;omega),World.frozen?_alloc_old _ _ t (by simp;omega),World.frozen?_alloc_old _ _ t (by simp;omega),World.frozen?_alloc_old _ _ t (Nat.ne_of_lt htl)];exact hf0)
 go_enter Tryz.func49,Tryz.ntmps49
 go_wp2
 refine wp_loop_rounds 1 ?_
 rw [rounds_succ]
 go_wp2
 go_ret
 exact ⟨rfl,rfl⟩
theorem as_set (e t:Addr)(old:Value)(w:World)(hg:w.cell? ⟨9,0,none⟩=some (.iface 283 (.agg #[.pointer (some ⟨15,84,none⟩)])))(ht0:w.cell? t=some old)(hf0:w.frozen? t=false) :
  Calls Tryz.prog 49 #[.iface 122 (.pointer (some e)),.iface 124 (.pointer (some t))] w fun ev w'=>ev = .returned (.bool true)∧w'.cell? t=some (.pointer (some e))∧ze (zt t.block) w w':=by
 refine (as_hit e t old w hg ht0 hf0).mono ?_
 rintro ev w' ⟨rfl,rfl⟩
 have htl:t.block<w.heap.size:=World.block_lt_of_cell? w t ht0
 refine ⟨rfl,World.cell?_setCell_same _ _ _ (u:=old) ?_,?_⟩
 ·rw [World.cell?_alloc_lt _ _ t (by simp;omega),World.cell?_alloc_lt _ _ t (by simp;omega),World.cell?_alloc_lt _ _ t (by simp;omega),World.cell?_alloc_lt _ _ t htl];exact ht0
 ·exact ((((((ze.refl (zt t.block) w).alloc _).alloc _).alloc _).alloc _)).setCell (.inl rfl) _
end
end Go.Proofs.YtcgleficedipkaaGreatDoor
