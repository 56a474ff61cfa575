/- errors.Is of a fault and a sentinel. -/
import Derived.Test.YtcgleficedipkaaGreatDoorYPatAPatC
import Derived.LaidEql
import Derived.Stop.Asserts
import Derived.RowKitTokens
namespace Go.Proofs.YtcgleficedipkaaGreatDoor
open _root_.Go.Proofs.Tryz
variable (g:Nat)(h v:Value)(xT:TypeId)(a e b t p:Addr)(old:Value)(w W:World)
section
open Go.RowKit Go.Extern.Stop Go.Stop Go.Extern
set_option maxHeartbeats 4000000
set_option maxRecDepth 1000000
theorem Tryz.eTypeOf:(Extern.ReflectliteType.typeOf #[.iface 428 v]).run prog w = .ok (.iface 283 (.agg #[.pointer (some ⟨15,428,none⟩)])) w:=by kernel_rfl
theorem Tryz.eComparable: ((Extern.ReflectliteType.method fun t => do Rtype.noPackHeld "Comparable" t; (fun a => Value.bool a.comparable) <$> typeInfo t) #[.agg #[.pointer (some ⟨15, 428, none⟩)]]).run prog w = .ok (.bool true) w := by kernel_rfl
theorem Tryz.eMethod: (Go.method 559 283 v "Comparable").run prog w = .ok (338, v) w := by kernel_rfl
theorem Tryz.eComp:(prog.info? 428).map (·.comparable)=some true:=by kernel_rfl
theorem Tryz.eSize:(prog.info? 447).map (·.size)=some 1:=by kernel_rfl
theorem Tryz.eNoIs:(Instr.typeAssert (.iface 428 v) xT 285 true).run prog w = .ok (.tuple #[.nilIface,.bool false]) w:=run_typeAssert_lacksB underlying285 (by kernel_rfl) (by kernel_rfl) v xT w
theorem Tryz.eNoUn:(Instr.typeAssert (.iface 428 v) xT 288 true).run prog w = .ok (.tuple #[.nilIface,.bool false]) w:=run_typeAssert_lacksB underlying288 (by kernel_rfl) (by kernel_rfl) v xT w
theorem Tryz.eNoUns:(Instr.typeAssert (.iface 428 v) xT 289 true).run prog w = .ok (.tuple #[.nilIface,.bool false]) w:=run_typeAssert_lacksB underlying289 (by kernel_rfl) (by kernel_rfl) v xT w
theorem Tryz.fNoIs:(Instr.typeAssert (.iface 122 v) xT 285 true).run prog w = .ok (.tuple #[.nilIface,.bool false]) w:=run_typeAssert_lacksB underlying285 (by kernel_rfl) (by kernel_rfl) v xT w
theorem Tryz.fUn:(Instr.typeAssert (.iface 122 v) xT 288 true).run prog w = .ok (.tuple #[.iface 122 v,.bool true]) w:=run_typeAssert_hasB underlying288 (by kernel_rfl) v xT w
theorem Tryz.fMethod: (Go.method 559 122 v "Unwrap").run prog w = .ok (324, v) w := by kernel_rfl
theorem Zy (h0:w.cell? ⟨g,0,none⟩=some (.iface 428 (.pointer (some b)))) :
  Calls prog 48 #[.iface 122 (.pointer (some ⟨g,0,none⟩)),.iface 428 (.pointer (some b))] w fun e w'=>e = .returned (.bool true)/\w'=w:=by
 obtain ⟨i,hi,hcmp⟩:=Z4.1 Tryz.eComp;obtain ⟨j,hj,hjs⟩:=Z4.1 Tryz.eSize;have x1:=@run_callFunc_extern prog 89 _ Extern.ReflectliteType.typeOf func89 (by kernel_rfl) (by kernel_rfl) (by kernel_rfl) (by kernel_rfl);have x2 := @run_callFunc_extern prog 338 _ (Extern.ReflectliteType.method fun t => do Rtype.noPackHeld "Comparable" t; pure (.bool (← typeInfo t).comparable)) func338 (by kernel_rfl) (by kernel_rfl) (by kernel_rfl) (by kernel_rfl);have t1:=Tryz.eTypeOf;have t2:=Tryz.eComparable;have t3:=Tryz.eMethod;have t4:=Tryz.eNoIs;have t5:=Tryz.eNoUn;have t6:=Tryz.eNoUns;have t7:=Tryz.fNoIs;have t8:=Tryz.fUn;have t9:=Tryz.fMethod;have heq:=run_eql_iface_ptr_same (P:=prog) w b underlying84 underlying428 hi hcmp hj;have hty:=run_eql_iface_types (P:=prog) 122 428 (.pointer (some ⟨g,0,none⟩)) (.pointer (some b)) underlying84 (by decide) w;go_enter func48,ntmps48;go_wp2;refine wp_loop_rounds 2 ?_;rw [rounds_succ];go_wp2;rw [rounds_succ];go_wp2;go_ret;exact ⟨rfl,rfl⟩
theorem is_no (c:Addr)(cb cc:Array Value)(tb tc:TypeId)(w:World)(h0:w.cell? ⟨g,0,none⟩=some (.iface 428 (.pointer (some c))))(hne:c≠b)(hc:w.heap[c.block]?=some (.cells cc tc (0,0)))(hb:w.heap[b.block]?=some (.cells cb tb (0,0))) :
  Calls prog 48 #[.iface 122 (.pointer (some ⟨g,0,none⟩)),.iface 428 (.pointer (some b))] w fun e w'=>e = .returned (.bool false)/\w'=w:=by
 obtain ⟨i,hi,hcmp⟩:=Z4.1 Tryz.eComp;obtain ⟨j,hj,hjs⟩:=Z4.1 Tryz.eSize;have x1:=@run_callFunc_extern prog 89 _ Extern.ReflectliteType.typeOf func89 (by kernel_rfl) (by kernel_rfl) (by kernel_rfl) (by kernel_rfl);have x2 := @run_callFunc_extern prog 338 _ (Extern.ReflectliteType.method fun t => do Rtype.noPackHeld "Comparable" t; pure (.bool (← typeInfo t).comparable)) func338 (by kernel_rfl) (by kernel_rfl) (by kernel_rfl) (by kernel_rfl);have t1:=Tryz.eTypeOf;have t2:=Tryz.eComparable;have t3:=Tryz.eMethod;have t4:=Tryz.eNoIs;have t5:=Tryz.eNoUn;have t6:=Tryz.eNoUns;have t7:=Tryz.fNoIs;have t8:=Tryz.fUn;have t9:=Tryz.fMethod;have heq:=run_eql_iface_ptr_other (P:=prog) w underlying84 underlying428 hi hcmp hj (by rw [hjs];decide) hne hc hb;have hty:=run_eql_iface_types (P:=prog) 122 428 (.pointer (some ⟨g,0,none⟩)) (.pointer (some b)) underlying84 (by decide) w;go_enter func48,ntmps48;go_wp2;refine wp_loop_rounds 2 ?_;rw [rounds_succ];go_wp2;rw [rounds_succ];go_wp2;go_ret;exact ⟨rfl,rfl⟩
end
section
open Go.RowKit
set_option maxHeartbeats 2000000
set_option maxRecDepth 1000000
structure zB (w:World)(a:Nat->Addr):Prop where
 row:∀ k,1<=k->k<=10->∃ c t,w.heap[(a k).block]?=some (.cells c t (0,0))
 ne:∀ j k,1<=j->j<=10->1<=k->k<=10->j≠k->a j≠a k
 s9:w.cell? ⟨0,0,none⟩=some (zN a 9)
 s10:w.cell? ⟨8,0,none⟩=some (zN a 10)
theorem zB.keep {w w':World}{a:Nat->Addr}(h:zB w a)(k:Q8 w w'):zB w' a:=
 ⟨fun j h1 h2=>by
  obtain ⟨c,t,hc⟩:=h.row j h1 h2;exact ⟨c,t,(k.block _ (yK.1 hc).1 (fun f=>f)).trans hc⟩,h.ne,(k.cell (zE w _ h.s9) (fun f=>f)).trans h.s9,(k.cell (zE w _ h.s10) (fun f=>f)).trans h.s10⟩
theorem zB.is_no {w:World}{a:Nat->Addr}(h:zB w a)(g j k:Nat)(h0:w.cell? ⟨g,0,none⟩=some (zN a k))(j1:1<=j)(j2:j<=10)(k1:1<=k)(k2:k<=10)(hne:k≠j) :
  Calls prog 48 #[.iface 122 (.pointer (some ⟨g,0,none⟩)),.iface 428 (.pointer (some (a j)))] w fun e w'=>e = .returned (.bool false)/\w'=w:=by
 obtain ⟨cb,tb,hb⟩:=h.row j j1 j2;obtain ⟨cc,tc,hc⟩:=h.row k k1 k2;exact _root_.Go.Proofs.YtcgleficedipkaaGreatDoor.is_no g (a j) (a k) cb cc tb tc w h0 (fun e=>h.ne k j k1 k2 j1 j2 hne e) hc hb
theorem zB.is {w:World}{a:Nat->Addr}(h:zB w a)(g k:Nat)(h0:w.cell? ⟨g,0,none⟩=some (zN a k))(k1:1<=k)(k2:k<=10)(j:Nat)(j1:1<=j)(j2:j<=10) :
  Calls prog 48 #[.iface 122 (.pointer (some ⟨g,0,none⟩)),.iface 428 (.pointer (some (a j)))] w fun e w'=>e = .returned (.bool (decide (k=j)))/\w'=w:=by
 by_cases e:k=j
 ·subst e;rw [decide_eq_true rfl];exact Zy g (a k) w h0
 ·rw [decide_eq_false e];exact h.is_no g j k h0 j1 j2 k1 k2 e
theorem vX (k:Nat)(a:Nat->Addr)(w:World)(hS:zW w a)(hR:zB w a)(k1:1<=k)(k2:k<=8)(h0:w.cell? ⟨g,0,none⟩=some (zN a k)) :
  Calls prog 25 #[.iface 122 (.pointer (some ⟨g,0,none⟩))] w fun e w'=>e = .returned (.int .i64 k)/\w'=w:=by
 have C:=zc (hR.is g k h0 k1 (by omega));obtain ⟨_,_,s9,s10⟩:=hR;obtain ⟨s1,s2,s3,s4,s5,s6,s7,s8⟩:=hS;clear h0 s3;unfold zN at s1 s2 s4 s5 s6 s7 s8 s9 s10;obtain rfl |rfl |rfl |rfl |rfl |rfl |rfl |rfl:k=1\/k=2\/k=3\/k=4\/k=5\/k=6\/k=7\/k=8:=by omega
 all_goals
  clear k1 k2;go_enter func25,ntmps25;go_wp2_with (go_at_call 48;refine Q7 (zb C _ (by decide) (by decide)) ?_);go_ret;exact ⟨rfl,rfl⟩
end
section
open Go.RowKit Go.Extern.Stop Go.Stop Go.Extern
set_option maxHeartbeats 4000000
set_option maxRecDepth 1000000
theorem Tryz.rValueOfPP:(ReflectliteValue.unpack (.iface 124 (.pointer (some t)))).run prog w
  = .ok (.agg #[.pointer (some ⟨15,124,none⟩),.pointer (some ⟨w.heap.size,0,none⟩),.int .u64 150]) (w.alloc (.cells #[.pointer (some t)] 124)):=by kernel_rfl
theorem Tryz.rTypePP: (ReflectliteValue.methodAny (ReflectliteValue.valueError "reflectlite.Value.Type" 0) (fun t _ _ _ => ReflectliteType.toType t) #[.agg #[.pointer (some ⟨15, 124, none⟩), .pointer (some a), .int .u64 150]]).run prog w
  = .ok (.iface 283 (.agg #[.pointer (some ⟨15,124,none⟩)])) w:=by kernel_rfl
theorem Tryz.rMethodKind: (Go.method 559 283 (.agg #[h]) "Kind").run prog w = .ok (320, h) w := by kernel_rfl
theorem Tryz.rKindPP:((ReflectliteType.abiMethod fun t=>(fun a:Nat=>Value.int IntKind.u8 (a:Int)) <$> Rtype.kind t) #[.pointer (some ⟨15,124,none⟩)]).run prog w = .ok (.int .u8 22) w:=by kernel_rfl
theorem Tryz.rKindP:((ReflectliteType.abiMethod fun t=>(fun a:Nat=>Value.int IntKind.u8 (a:Int)) <$> Rtype.kind t) #[.pointer (some ⟨15,122,none⟩)]).run prog w = .ok (.int .u8 22) w:=by kernel_rfl
theorem Tryz.rPartsPP:(ReflectliteValue.parts (.agg #[.pointer (some ⟨15,124,none⟩),.pointer (some a),.int .u64 150])).run prog w = .ok (some (124,a,150)) w:=by kernel_rfl
theorem Tryz.rIsNilPP (ha:W.cell? a=some (.pointer (some p))) :
  (ReflectliteValue.method (ReflectliteValue.valueError "reflectlite.Value.IsNil" 0) ReflectliteValue.isNil #[.agg #[.pointer (some ⟨15, 124, none⟩), .pointer (some a), .int .u64 150]]).run prog W = .ok (.bool false) W := by
 show (ReflectliteValue.parts (.agg #[.pointer (some ⟨15,124,none⟩),.pointer (some a),.int .u64 150]) >>= _:Sem Value).run prog W=_;simp only [Sem.run_bind,Tryz.rPartsPP,Result.andThen];simp [ReflectliteValue.isNil,loadVar,isAgg,underlying,underlying124,ha,Result.andThen]
theorem Tryz.rMethodElem: (Go.method 559 283 (.agg #[h]) "Elem").run prog w = .ok (339, .agg #[h]) w := by kernel_rfl
theorem Tryz.rMethodImplements: (Go.method 559 283 (.agg #[h]) "Implements").run prog w = .ok (340, .agg #[h]) w := by kernel_rfl
theorem Tryz.rMethodAssignableTo: (Go.method 559 283 (.agg #[h]) "AssignableTo").run prog w = .ok (337, .agg #[h]) w := by kernel_rfl
theorem Tryz.rElemPP:(ReflectliteType.method ReflectliteType.elem #[.agg #[.pointer (some ⟨15,124,none⟩)]]).run prog w = .ok (.iface 283 (.agg #[.pointer (some ⟨15,122,none⟩)])) w:=by kernel_rfl
theorem Tryz.rImplementsP: (ReflectliteType.relation "Implements" ReflectliteType.implements_ #[.agg #[.pointer (some ⟨15, 122, none⟩)], .iface 283 (.agg #[.pointer (some ⟨15, 84, none⟩)])]).run prog w = .ok (.bool true) w := by kernel_rfl
theorem Tryz.rTypeOfP:(ReflectliteType.typeOf #[.iface 122 v]).run prog w = .ok (.iface 283 (.agg #[.pointer (some ⟨15,122,none⟩)])) w:=by kernel_rfl
theorem Tryz.rAssignableP: (ReflectliteType.relation "AssignableTo" ReflectliteType.assignableTo #[.agg #[.pointer (some ⟨15, 122, none⟩)], .iface 283 (.agg #[.pointer (some ⟨15, 122, none⟩)])]).run prog w = .ok (.bool true) w := by kernel_rfl
theorem Tryz.rValueOfP:(ReflectliteValue.unpack (.iface 122 (.pointer (some e)))).run prog w
  = .ok (.agg #[.pointer (some ⟨15,122,none⟩),.pointer (some ⟨w.heap.size,0,none⟩),.int .u64 150]) (w.alloc (.cells #[.pointer (some e)] 122)):=by kernel_rfl
theorem Tryz.rElemOfPP:(Rtype.elem? 124).run prog w = .ok (some 122) w:=by kernel_rfl
theorem Tryz.rMkP:(ReflectliteValue.mk 122 p ReflectliteValue.flagAddr).run prog w = .ok (.agg #[.pointer (some ⟨15,122,none⟩),.pointer (some p),.int .u64 406]) w:=by kernel_rfl
theorem Tryz.rElemVPP (ha:W.cell? a=some (.pointer (some p))) :
  (ReflectliteValue.method (ReflectliteValue.valueError "reflectlite.Value.Elem" 0) ReflectliteValue.elem #[.agg #[.pointer (some ⟨15, 124, none⟩), .pointer (some a), .int .u64 150]]).run prog W
   = .ok (.agg #[.pointer (some ⟨15,122,none⟩),.pointer (some p),.int .u64 406]) W:=by
 show (ReflectliteValue.parts (.agg #[.pointer (some ⟨15,124,none⟩),.pointer (some a),.int .u64 150]) >>= _:Sem Value).run prog W=_;simp only [Sem.run_bind,Tryz.rPartsPP,Result.andThen];simp [ReflectliteValue.elem,loadVar,isAgg,underlying,underlying124,ha,Result.andThen,Tryz.rElemOfPP,Tryz.rMkP]
theorem Tryz.rPartsPa:(ReflectliteValue.parts (.agg #[.pointer (some ⟨15,122,none⟩),.pointer (some a),.int .u64 406])).run prog w = .ok (some (122,a,406)) w:=by kernel_rfl
theorem Tryz.rPartsP:(ReflectliteValue.parts (.agg #[.pointer (some ⟨15,122,none⟩),.pointer (some a),.int .u64 150])).run prog w = .ok (some (122,a,150)) w:=by kernel_rfl
theorem Tryz.rDirectP:(Rtype.directlyAssignable 122 122).run prog w = .ok true w:=by kernel_rfl
theorem Tryz.rSetP (ta b e:Addr)(old:Value)(W:World)(hb:W.cell? b=some (.pointer (some e)))(ht:W.cell? ta=some old)(hf:W.frozen? ta=false) :
  (ReflectliteValue.set #[.agg #[.pointer (some ⟨15,122,none⟩),.pointer (some ta),.int .u64 406],.agg #[.pointer (some ⟨15,122,none⟩),.pointer (some b),.int .u64 150]]).run prog W
   = .ok (.tuple #[]) (W.setCell ta (.pointer (some e))):=by
 show (ReflectliteValue.parts (.agg #[.pointer (some ⟨15,122,none⟩),.pointer (some ta),.int .u64 406]) >>= fun y=>ReflectliteValue.parts (.agg #[.pointer (some ⟨15,122,none⟩),.pointer (some b),.int .u64 150]) >>= _:Sem Value).run prog W=_;simp only [Sem.run_bind,Tryz.rPartsPa,Tryz.rPartsP,Result.andThen];simp [ReflectliteValue.flagAddr,loadVar,isAgg,underlying,underlying122,hb,Result.andThen,Tryz.rDirectP,storeVar,Value.cells,storeCells,Addr.add];rw [run_store prog W ta _ _ (by rfl)];simp [ht,hf]
theorem as_hit (hg:w.cell? ⟨9,0,none⟩=some (.iface 283 (.agg #[.pointer (some ⟨15,84,none⟩)])))(ht0:w.cell? t=some old)(hf0:w.frozen? t=false) :
  Calls prog 49 #[.iface 122 (.pointer (some e)),.iface 124 (.pointer (some t))] w fun ev w'=>ev = .returned (.bool true)/\w'=((((w.alloc (.cells #[.pointer (some t)] 124)).alloc (.cells #[.pointer (some ⟨15,124,none⟩),.pointer (some ⟨w.heap.size,0,none⟩),.int .u64 150] 213)).alloc (.cells #[.pointer (some ⟨15,124,none⟩),.pointer (some ⟨w.heap.size,0,none⟩),.int .u64 150] 213)).alloc (.cells #[.pointer (some e)] 122)).setCell t (.pointer (some e)):=by
 have h6:=@run_callFunc_extern prog 91 _ (fun args=>ReflectliteValue.unpack (args.getD 0 (.tuple #[]))) func91 (by kernel_rfl) (by kernel_rfl) (by kernel_rfl) (by kernel_rfl);have h7 := @run_callFunc_extern prog 92 _ (ReflectliteValue.methodAny (ReflectliteValue.valueError "reflectlite.Value.Type" 0) (fun t _ _ _ => ReflectliteType.toType t)) func92 (by kernel_rfl) (by kernel_rfl) (by kernel_rfl) (by kernel_rfl);have h8 := @run_callFunc_extern prog 93 _ (ReflectliteValue.method (ReflectliteValue.valueError "reflectlite.Value.IsNil" 0) ReflectliteValue.isNil) func93 (by kernel_rfl) (by kernel_rfl) (by kernel_rfl) (by kernel_rfl);have h27:=@run_callFunc_extern prog 320 _ (ReflectliteType.abiMethod fun t=>do pure (.int .u8 (<-Rtype.kind t))) func320 (by kernel_rfl) (by kernel_rfl) (by kernel_rfl) (by kernel_rfl);have h37:=@run_callFunc_extern prog 339 _ (ReflectliteType.method ReflectliteType.elem) func339 (by kernel_rfl) (by kernel_rfl) (by kernel_rfl) (by kernel_rfl);have h38 := @run_callFunc_extern prog 340 _ (ReflectliteType.relation "Implements" ReflectliteType.implements_) func340 (by kernel_rfl) (by kernel_rfl) (by kernel_rfl) (by kernel_rfl);have h10:=@run_callFunc_extern prog 89 _ ReflectliteType.typeOf func89 (by kernel_rfl) (by kernel_rfl) (by kernel_rfl) (by kernel_rfl);have h35 := @run_callFunc_extern prog 337 _ (ReflectliteType.relation "AssignableTo" ReflectliteType.assignableTo) func337 (by kernel_rfl) (by kernel_rfl) (by kernel_rfl) (by kernel_rfl);have h11 := @run_callFunc_extern prog 137 _ (ReflectliteValue.method (ReflectliteValue.valueError "reflectlite.Value.Elem" 0) ReflectliteValue.elem) func137 (by kernel_rfl) (by kernel_rfl) (by kernel_rfl) (by kernel_rfl);have h12:=@run_callFunc_extern prog 138 _ ReflectliteValue.set func138 (by kernel_rfl) (by kernel_rfl) (by kernel_rfl) (by kernel_rfl);have tO:=Tryz.rTypeOfP;have mA:=Tryz.rMethodAssignableTo;have aP:=Tryz.rAssignableP;have vP:=Tryz.rValueOfP;have f6:=Tryz.rValueOfPP;have f7:=Tryz.rTypePP;have mK:=Tryz.rMethodKind;have mE:=Tryz.rMethodElem;have mI:=Tryz.rMethodImplements;have kPP:=Tryz.rKindPP;have kP:=Tryz.rKindP;have ePP:=Tryz.rElemPP;have iP:=Tryz.rImplementsP;have n8:=Tryz.rIsNilPP ⟨w.heap.size,0,none⟩ t ((w.alloc (.cells #[.pointer (some t)] 124)).alloc (.cells #[.pointer (some ⟨15,124,none⟩),.pointer (some ⟨w.heap.size,0,none⟩),.int .u64 150] 213)) (by simp);have hlt:9<w.heap.size:=zE w ⟨9,0,none⟩ hg;have hg2:((w.alloc (.cells #[.pointer (some t)] 124)).alloc (.cells #[.pointer (some ⟨15,124,none⟩),.pointer (some ⟨w.heap.size,0,none⟩),.int .u64 150] 213)).cell? ⟨9,0,none⟩=some (.iface 283 (.agg #[.pointer (some ⟨15,84,none⟩)])):=by
  rw [kz _ _ ⟨9,0,none⟩ (by simp;omega),kz _ _ ⟨9,0,none⟩ hlt];exact hg
 have htl:t.block<w.heap.size:=zE w t ht0;have el:=Tryz.rElemVPP ⟨w.heap.size,0,none⟩ t (((w.alloc (.cells #[.pointer (some t)] 124)).alloc (.cells #[.pointer (some ⟨15,124,none⟩),.pointer (some ⟨w.heap.size,0,none⟩),.int .u64 150] 213)).alloc (.cells #[.pointer (some ⟨15,124,none⟩),.pointer (some ⟨w.heap.size,0,none⟩),.int .u64 150] 213)) (by rw [kz _ _ ⟨w.heap.size,0,none⟩ (by simp;omega)];simp);have st:=Tryz.rSetP t ⟨w.heap.size+1+1+1,0,none⟩ e old ((((w.alloc (.cells #[.pointer (some t)] 124)).alloc (.cells #[.pointer (some ⟨15,124,none⟩),.pointer (some ⟨w.heap.size,0,none⟩),.int .u64 150] 213)).alloc (.cells #[.pointer (some ⟨15,124,none⟩),.pointer (some ⟨w.heap.size,0,none⟩),.int .u64 150] 213)).alloc (.cells #[.pointer (some e)] 122))
  (by rw [XP _ _ _ _ (by simp)];rfl)
  (by rw [kz _ _ t (by simp;omega),kz _ _ t (by simp;omega),kz _ _ t (by simp;omega),kz _ _ t htl];exact ht0)
  (by rw [Xd _ _ t (by simp;omega),Xd _ _ t (by simp;omega),Xd _ _ t (by simp;omega),Xd _ _ t (Nat.ne_of_lt htl)];exact hf0)
 go_enter func49,ntmps49;go_wp2;refine wp_loop_rounds 1 ?_;rw [rounds_succ];go_wp2;go_ret;exact ⟨rfl,rfl⟩
theorem as_set (hg:w.cell? ⟨9,0,none⟩=some (.iface 283 (.agg #[.pointer (some ⟨15,84,none⟩)])))(ht0:w.cell? t=some old)(hf0:w.frozen? t=false) :
  Calls prog 49 #[.iface 122 (.pointer (some e)),.iface 124 (.pointer (some t))] w fun ev w'=>ev = .returned (.bool true)/\w'.cell? t=some (.pointer (some e))/\ze (zt t.block) w w':=by
 refine (as_hit e t old w hg ht0 hf0).mono ?_;rintro ev w' ⟨rfl,rfl⟩;have htl:t.block<w.heap.size:=zE w t ht0;refine ⟨rfl,yY _ _ _ (u:=old) ?_,?_⟩
 ·rw [kz _ _ t (by simp;omega),kz _ _ t (by simp;omega),kz _ _ t (by simp;omega),kz _ _ t htl];exact ht0
 ·exact ((((((ze.refl (zt t.block) w).alloc _).alloc _).alloc _).alloc _)).setCell (.inl rfl) _
end
end Go.Proofs.YtcgleficedipkaaGreatDoor
