/- A node is held against all schemas. -/
import Derived.Test.YtcgleficedipkaaGreatDoorYHeAHeM
namespace Go.Proofs.YtcgleficedipkaaGreatDoor
section
open Go.RowKit
open Sm (Stp Tree capT)
set_option maxHeartbeats 4000000
set_option maxRecDepth 100000
theorem zeN (hb tb cb cc rb rc zv q0 q1 kb ub kc uc sb:Nat)(kv tv:Value)(keys key text:ByteArray)(more:Int)(R:Nat→Prop)(w:World)(hH:Hdr w hb tb cb cc rb rc zv kv tv key text)(hK:Hg w zv false false false false)(a0:w.cell? ⟨rb,0,none⟩=some (.pointer (some ⟨q0,0,none⟩)))(a1:w.cell? ⟨rb,1,none⟩=some (.pointer (some ⟨q1,0,none⟩)))(c2:w.cell? ⟨q0,2,none⟩=some (.slice (some ⟨kb,0,none⟩) 1 kc))(c3:w.cell? ⟨q0,3,none⟩=some (.slice (some ⟨ub,0,none⟩) 1 uc))(c4:w.cell? ⟨q0,4,none⟩=some (.int .i64 more))(k0:w.cell? ⟨kb,0,none⟩=some (.pointer (some ⟨sb,0,none⟩)))(u0:w.cell? ⟨ub,0,none⟩=some (.int .i64 1))(hq:¬R q0)(hu:¬R ub)(hz:¬R zv)(hzt:zv≠11)(hB:∀ g,Blk hb tb cb rb kv tv g→¬R g∧g≠zv)(hm:more = -2∨more = -1∨more=1)(h:Ready w R sb keys)(hs:Kc.textB key=true) :
  Calls Tryz.prog 52 #[.pointer (some ⟨hb,0,none⟩),.int .i64 0] w fun x w'=>x = .returned (.tuple #[])∧ObjR w w' R zv sb keys key more:=by
 have HC:=zc (zew hb tb cb cc rb rc zv q0 kb ub kc uc sb kv tv keys key text more R w hH hK c2 c3 c4 k0 u0 hq hu hz hzt hB hm h hs)
 have HB:Hid (∀ (O:Nat→Prop) w1,(∀ g,O g→(R g∧g≠11)∨g=zv)→ze O w w1→w1.cell? ⟨hb,2,none⟩=some (.slice (some ⟨zv,0,none⟩) 2 2)∧w1.cell? ⟨rb,1,none⟩=some (.pointer (some ⟨q1,0,none⟩))):=fun O w1 hO k=>by
  have n1:¬O hb:=fun e=>(hO _ e).elim (fun e=>(hB hb (.inl rfl)).1 e.1) (hB hb (.inl rfl)).2
  have n2:¬O rb:=fun e=>(hO _ e).elim (fun e=>(hB rb (.inr (.inr (.inr (.inl rfl))))).1 e.1) (hB rb (.inr (.inr (.inr (.inl rfl))))).2
  exact ⟨zg k _ _ hH.h2 n1,zg k _ _ a1 n2⟩
 have h0:=hH.h0
 have h1:=hH.h1
 have h2:=hH.h2
 have n0:=hH.c0
 have t0:=hK.t0
 clear c2 c3 c4 k0 u0 hq hu hz hzt hB hm h hs hH hK
 go_enter Tryz.func52,Tryz.ntmps52
 go_wp2_with fail
 refine wp_loop_rounds 3 ?_
 rw [rounds_succ]
 go_wp2_with (go_at_call 100;refine (zb HC).mono ?_;rintro e w1 ⟨rfl,hR⟩;refine zb ?_)
 refine zc ?_
 obtain ⟨i2,b1⟩:w1.cell? ⟨hb,2,none⟩=some (.slice (some ⟨zv,0,none⟩) 2 2)∧w1.cell? ⟨rb,1,none⟩=some (.pointer (some ⟨q1,0,none⟩)):=by
  obtain ⟨_,_,_,_,O,hO,k⟩:=hR
  exact zb HB O w1 hO k
 have t1:w1.cell? ⟨zv,1,none⟩=some (.bool false):=by
  obtain ⟨_,_,hk,_⟩:=hR
  exact hk.t1
 have HR:=zc hR
 clear hR HC HB h0 h1 h2 n0 t0 a0 a1
 go_wp2_with fail
 rw [rounds_succ]
 go_wp2_with fail
 rw [rounds_succ]
 go_wp2_with fail
 go_end0
 exact ⟨rfl,zb HR⟩
theorem hall1_no (hb tb cb cc rb rc zv q0 q1:Nat)(kv tv:Value)(key text:ByteArray)(b3:Bool)(w:World)(hH:Hdr w hb tb cb cc rb rc zv kv tv key text)(hK:Hg w zv false false false b3)(a0:w.cell? ⟨rb,0,none⟩=some (.pointer (some ⟨q0,0,none⟩)))(a1:w.cell? ⟨rb,1,none⟩=some (.pointer (some ⟨q1,0,none⟩))) :
  Calls Tryz.prog 52 #[.pointer (some ⟨hb,0,none⟩),.int .i64 1] w fun x w'=>x = .returned (.tuple #[])∧ze (fun _=>False) w w':=by
 have HO:Hid (ze (fun _=>False) w w):=ze.refl _ _
 have h1:=hH.h1
 have h2:=hH.h2
 have t12:=hK.t12
 have t13:=hK.t13
 clear hH hK
 go_enter Tryz.func52,Tryz.ntmps52
 go_wp2_with fail
 refine wp_loop_rounds 3 ?_
 rw [rounds_succ]
 go_wp2_with fail
 rw [rounds_succ]
 go_wp2_with fail
 rw [rounds_succ]
 go_wp2_with fail
 go_end0
 exact ⟨rfl,zb HO⟩
theorem zeO (hb tb cb cc rb rc zv q0 q1:Nat)(kv tv:Value)(key text:ByteArray)(w:World)(hH:Hdr w hb tb cb cc rb rc zv kv tv key text)(hK:Hg w zv true false false false)(a0:w.cell? ⟨rb,0,none⟩=some (.pointer (some ⟨q0,0,none⟩)))(a1:w.cell? ⟨rb,1,none⟩=some (.pointer (some ⟨q1,0,none⟩)))(Q:World→Prop)
  (hC:Calls Tryz.prog 99 #[.pointer (some ⟨hb,0,none⟩),.int .i64 1,.pointer (some ⟨q1,0,none⟩)] w fun x w'=>x = .returned (.tuple #[])∧Q w') :
  Calls Tryz.prog 52 #[.pointer (some ⟨hb,0,none⟩),.int .i64 1] w fun x w'=>x = .returned (.tuple #[])∧Q w':=by
 have HC:=zc hC
 have h0:=hH.h0
 have h1:=hH.h1
 have h2:=hH.h2
 have n4:=hH.c4
 have t12:=hK.t12
 have t13:=hK.t13
 clear hH hK hC
 go_enter Tryz.func52,Tryz.ntmps52
 go_wp2_with fail
 refine wp_loop_rounds 3 ?_
 rw [rounds_succ]
 go_wp2_with fail
 rw [rounds_succ]
 go_wp2_with (go_at_call 99;refine (zb HC).mono ?_;rintro e w1 ⟨rfl,hR⟩;have HR:=zc hR;clear hR)
 rw [rounds_succ]
 go_wp2_with fail
 go_end0
 exact ⟨rfl,zb HR⟩
theorem Tryz.infoKnown:(Tryz.prog.info? 139).map (fun i=>(i.zero.map (·.cells),i.size,i.bytes))=some (some #[.bool false,.bool false,.bool false,.bool false,.bool false,.bool false,.bool false,.bool false,.bool false,.bool false,.bool false,.bool false],12,12):=by kernel_rfl
def knZ:Array Value:=#[.bool false,.bool false,.bool false,.bool false,.bool false,.bool false,.bool false,.bool false,.bool false,.bool false,.bool false,.bool false,.bool false,.bool false,.bool false,.bool false,.bool false,.bool false,.bool false,.bool false,.bool false,.bool false,.bool false,.bool false]
theorem zex (w:World):(Instr.makeSlice 133 (.int .i64 2) (.int .i64 2)).run Tryz.prog w = .ok (.slice (some ⟨w.heap.size,0,none⟩) 2 2) (w.alloc (.cells knZ 139)):=by
 obtain ⟨i,hi,hzz⟩:=Option.map_eq_some_iff.1 Tryz.infoKnown
 simp only [Prod.mk.injEq] at hzz
 obtain ⟨hz,hs,hb⟩:=hzz
 obtain ⟨z,hz1,hz2⟩:=Option.map_eq_some_iff.1 hz
 have h:=run_make (P:=Tryz.prog) w 133 139 i z Tryz.underlying133 hi hz1 .i64 .i64 2 2 (by decide) (by decide) (by rw [hb];decide) (by decide)
 rw [hs,hz2,show madeCells _ (Int.toNat 2*12)=knZ by kernel_rfl] at h
 exact h
theorem idx4 (x:Array Value)(hx:x.size=4)(i:Nat)(hi:i<4)(w:World):(Instr.index 137 (.agg x) (.int .i64 (i:Nat))).run Tryz.prog w = .ok (x[i]'(by omega)) w:=by
 have h:Tryz.prog.underlying 137=some (.array 4 4):=Tryz.underlying137
 have h3:i<x.size:=by omega
 simp [Instr.index,asIntOf,part]
 rw [if_pos hi,Array.getElem?_eq_getElem h3]
 rfl
def fws (b1 b2 b3:Bool):List Int:=(if b1 then [1] else [])++(if b2 then [2] else [])++(if b3 then [3] else [])
def FailSl (w:World)(v:Value)(ws:List Int):Prop:=∃ b c,v = .slice b ws.length c∧∀ (j:Nat) x,ws[j]?=some x→∃ g,b=some ⟨g,0,none⟩∧w.cell? ⟨g,j*2,none⟩=some (.int .i64 1)∧w.cell? ⟨g,j*2+1,none⟩=some (.int .i64 x)
theorem fail_one (w:World)(o:Obj)(k:Int)(T:TypeId)(r:Array Value)(c:Nat):FailSl ((w.alloc o).alloc (.cells (#[.int .i64 1,.int .i64 k]++r) T)).drew (.slice (some ⟨w.heap.size+1,0,none⟩) 1 c) [k]:=by
 refine ⟨_,c,rfl,fun j x hj=>?_⟩
 cases j with
 |succ j=>simp at hj
 |zero=>
  have e:k=x:=by simpa using hj
  subst e
  refine ⟨_,rfl,?_,?_⟩
  ·exact zg ((ze.refl (fun _=>False) _).drew) _ _ (zm (w.alloc o) _ (by simp) _ _ 0 _ (by rw [Array.getElem?_append_left (by simp)];rfl)) (fun f=>f)
  ·exact zg ((ze.refl (fun _=>False) _).drew) _ _ (zm (w.alloc o) _ (by simp) _ _ 1 _ (by rw [Array.getElem?_append_left (by simp)];rfl)) (fun f=>f)
structure FailIs (keys pat key text:ByteArray)(more:Int)(f:Nat)(b1 b2 b3:Bool):Prop where
 e1:b1=true↔(Hits keys key∨more=1)∧¬Hits pat text
 e2:b2=true↔(Hits keys key∨more=1)∧f≠0∧¬Hits (fmtS f) text
 e3:b3=true↔¬Hits keys key∧more = -1
theorem FailIs.no {keys pat key text:ByteArray}{more:Int}{f:Nat}{b1 b2 b3:Bool}(h:FailIs keys pat key text more f b1 b2 b3):b3=false∨b1=false∧b2=false:=by
 cases b3 with
 |false=>exact .inl rfl
 |true=>
  have h3:=h.e3.1 rfl
  refine .inr ⟨?_,?_⟩
  ·cases b1 with
   |false=>rfl
   |true=>
    have:=(h.e1.1 rfl).1
    exact absurd this (fun e=>e.elim h3.1 (fun e=>by omega))
  ·cases b2 with
   |false=>rfl
   |true=>
    have:=(h.e2.1 rfl).1
    exact absurd this (fun e=>e.elim h3.1 (fun e=>by omega))
theorem zeP (hb tb cb cc rb rc zv q0 q1 sb:Nat)(kv tv fv:Value)(keys pat key text:ByteArray)(more:Int)(f:Nat)(b:Bool)(R1 R2:Nat→Prop)(w:World)(hH:Hdr w hb tb cb cc rb rc zv kv tv key text)(hb0:b=true↔Hits keys key)(hK:Hg w zv (b ||decide (more=1)) false false (!b && decide (more = -1)))(a0:w.cell? ⟨rb,0,none⟩=some (.pointer (some ⟨q0,0,none⟩)))(a1:w.cell? ⟨rb,1,none⟩=some (.pointer (some ⟨q1,0,none⟩)))(d0:w.cell? ⟨q1,0,none⟩=some (.pointer (some ⟨sb,0,none⟩)))(d1:w.cell? ⟨q1,1,none⟩=some fv)(h:Ready w R1 sb pat)(hf:(f=0∧fv = .pointer none)∨(1≤f∧∃ sb2,fv = .pointer (some ⟨sb2,0,none⟩)∧Ready w R2 sb2 (fmtS f)))(dj:∀ g,R1 g→¬R2 g)(hq:¬R1 q1∧q1≠zv)(hz:¬R1 zv∧¬R2 zv)(hzt:zv≠11)(hB:∀ g,Blk hb tb cb rb kv tv g→¬R1 g∧¬R2 g∧g≠zv)(hs:Kc.textB text=true) :
  Calls Tryz.prog 52 #[.pointer (some ⟨hb,0,none⟩),.int .i64 1] w fun x w'=>x = .returned (.tuple #[])∧∃ b0 b1 b2 b3,Hg w' zv b0 b1 b2 b3∧FailIs keys pat key text more f b1 b2 b3∧∃ O:Nat→Prop,(∀ g,O g→R1 g∨R2 g∨g=zv)∧ze O w w':=by
 have e3:(!b && decide (more = -1))=true↔¬Hits keys key∧more = -1:=by rw [←hb0];cases b<;>simp
 cases ha:(b ||decide (more=1)) with
 |false=>
  rw [ha] at hK
  refine (hall1_no hb tb cb cc rb rc zv q0 q1 kv tv key text _ w hH hK a0 a1).mono ?_
  rintro x w' ⟨rfl,k⟩
  have hn:¬(Hits keys key∨more=1):=by
   rw [←hb0]
   intro e
   rcases e with rfl |rfl<;>simp at ha
  exact ⟨rfl,false,false,false,_,hK.keep k (fun f=>f),⟨⟨fun e=>by simp at e,fun e=>absurd e.1 hn⟩,⟨fun e=>by simp at e,fun e=>absurd e.1 hn⟩,e3⟩,fun _=>False,fun _ f=>f.elim,k⟩
 |true=>
  have h3:(!b && decide (more = -1))=false:=by
   cases b with
   |true=>rfl
   |false=>
    have:more=1:=by simpa using ha
    simp;omega
  have hy:Hits keys key∨more=1:=by
   rw [←hb0]
   cases b with
   |true=>exact .inl rfl
   |false=>exact .inr (by simpa using ha)
  rw [h3] at e3
  rw [ha,h3] at hK
  refine (zeO hb tb cb cc rb rc zv q0 q1 kv tv key text w hH hK a0 a1 _ (hstr_any hb tb cb cc rb rc zv q1 sb kv tv fv pat key text f R1 R2 w hH hK d0 d1 h hf dj hq hz hzt hB hs)).mono ?_
  rintro x w' ⟨rfl,p1,p2,hp1,hp2,hk,O,hO,k⟩
  refine ⟨rfl,true,!p1,!p2,false,hk,⟨?_,?_,e3⟩,O,hO,k⟩
  ·rw [←hp1];cases p1<;>simp [hy]
  ·have:(f≠0∧¬Hits (fmtS f) text)↔¬p2=true:=by rw [hp2];exact ⟨fun e q=>q.elim e.1 e.2,fun e=>⟨fun q=>e (.inl q),fun q=>e (.inr q)⟩⟩
   rw [this];cases p2<;>simp [hy]
set_option maxHeartbeats 8000000
theorem Tryz.infoFail:(Tryz.prog.info? 49).map (fun i=>(i.zero,i.size,i.bytes))=some (some (.agg #[.int .i64 0,.int .i64 0]),2,16):=by kernel_rfl
theorem zeQ (bt br tb cb cc rb rc q0 q1 kb ub kc uc sb0 sb1:Nat)(kv tv fv:Value)(keys pat key text:ByteArray)(more:Int)(f:Nat)(R0 R1 R2:Nat→Prop)(w:World)(hT:TreeAt w bt tb cb cc kv tv key text)(hR:Rules w br rb q0 q1 kb ub kc uc keys pat more f R0 R1 R2 sb0 sb1 fv)(sep:∀ g,g=tb∨g=cb∨kv.ownBlock=some g∨tv.ownBlock=some g→¬R0 g∧¬R1 g∧¬R2 g)(ht:11<w.heap.size)(hm:more = -2∨more = -1∨more=1)(hs:Kc.textB key=true)(hs':Kc.textB text=true) :
  Calls Tryz.prog 28 #[.slice (some ⟨tb,0,none⟩) 2 2,.slice (some ⟨rb,0,none⟩) 2 rc] w fun x w'=>∃ b1 b2 b3 v,x = .returned v∧FailSl w' v (fws b1 b2 b3)∧FailIs keys pat key text more f b1 b2 b3∧ze (fun g=>R0 g∨R1 g∨R2 g) w w':=by
 have hmk:=zex
 have x0:∀ (a b c d:Value) (V:World),(Instr.index 137 (.agg #[a,b,c,d]) (.int .i64 0)).run Tryz.prog V = .ok a V:=fun a b c d V=>idx4 #[a,b,c,d] rfl 0 (by decide) V
 have x1:∀ (a b c d:Value) (V:World),(Instr.index 137 (.agg #[a,b,c,d]) (.int .i64 1)).run Tryz.prog V = .ok b V:=fun a b c d V=>idx4 #[a,b,c,d] rfl 1 (by decide) V
 have x2:∀ (a b c d:Value) (V:World),(Instr.index 137 (.agg #[a,b,c,d]) (.int .i64 2)).run Tryz.prog V = .ok c V:=fun a b c d V=>idx4 #[a,b,c,d] rfl 2 (by decide) V
 have x3:∀ (a b c d:Value) (V:World),(Instr.index 137 (.agg #[a,b,c,d]) (.int .i64 3)).run Tryz.prog V = .ok d V:=fun a b c d V=>idx4 #[a,b,c,d] rfl 3 (by decide) V
 obtain ⟨i0,hi0,hz0,hz1,hz2⟩:=info_parts Tryz.infoFail
 go_enter Tryz.func28,Tryz.ntmps28
 go_wp2_with fail
 have hO0:ze (fun _=>False) w ((w.alloc (.cells (knZ.setIfInBounds 0 (.bool true)) 139)).alloc (.cells #[.slice (some ⟨tb,0,none⟩) 2 2,.slice (some ⟨rb,0,none⟩) 2 rc,.slice (some ⟨w.heap.size,0,none⟩) 2 2] 135)):=keep3 _ _
 have hzz:((w.alloc (.cells (knZ.setIfInBounds 0 (.bool true)) 139)).alloc (.cells #[.slice (some ⟨tb,0,none⟩) 2 2,.slice (some ⟨rb,0,none⟩) 2 rc,.slice (some ⟨w.heap.size,0,none⟩) 2 2] 135)).heap.size=w.heap.size+2:=by simp
 have nc:=fun (j:Nat) v h=>zg ((ze.refl (fun _=>False) (w.alloc (.cells (knZ.setIfInBounds 0 (.bool true)) 139))).alloc (.cells #[.slice (some ⟨tb,0,none⟩) 2 2,.slice (some ⟨rb,0,none⟩) 2 rc,.slice (some ⟨w.heap.size,0,none⟩) 2 2] 135)) ⟨w.heap.size,j,none⟩ v (zm w _ rfl (knZ.setIfInBounds 0 (.bool true)) 139 j v h) (fun f=>f)
 have hKn:Hg ((w.alloc (.cells (knZ.setIfInBounds 0 (.bool true)) 139)).alloc (.cells #[.slice (some ⟨tb,0,none⟩) 2 2,.slice (some ⟨rb,0,none⟩) 2 rc,.slice (some ⟨w.heap.size,0,none⟩) 2 2] 135)) w.heap.size false false false false:=
  ⟨nc 0 _ rfl,nc 1 _ rfl,nc 8 _ rfl,nc 9 _ rfl,nc 10 _ rfl,nc 11 _ rfl,nc 12 _ rfl,nc 13 _ rfl,nc 20 _ rfl,nc 21 _ rfl,nc 22 _ rfl,nc 23 _ rfl,fun j=>zP ((ze.refl (fun _=>False) _).alloc _) _ (by simp) (zG w _ rfl _ _ j) (fun f=>f)⟩
 have hc:=fun (j:Nat) v h=>zm (w.alloc (.cells (knZ.setIfInBounds 0 (.bool true)) 139)) (w.heap.size+1) (by simp) #[.slice (some ⟨tb,0,none⟩) 2 2,.slice (some ⟨rb,0,none⟩) 2 rc,.slice (some ⟨w.heap.size,0,none⟩) 2 2] 135 j v h
 have g0:=hc 0 _ rfl
 have g1:=hc 1 _ rfl
 have g2:=hc 2 _ rfl
 clear nc hc hmk
 generalize (w.alloc (.cells (knZ.setIfInBounds 0 (.bool true)) 139)).alloc (.cells #[.slice (some ⟨tb,0,none⟩) 2 2,.slice (some ⟨rb,0,none⟩) 2 rc,.slice (some ⟨w.heap.size,0,none⟩) 2 2] 135)=w0 at *
 have c:=fun p v h=>zg hO0 p v h (fun f=>f)
 have hH:Hdr w0 (w.heap.size+1) tb cb cc rb rc w.heap.size kv tv key text:=⟨g0,g1,g2,c _ _ hT.c0,c _ _ hT.c3,c _ _ hT.c4,c _ _ hT.c5,c _ _ hT.c6,c _ _ hT.k0,hT.kl.1.keep hO0,hT.tl.1.keep hO0,fun g hg=>Nat.lt_of_lt_of_le (hT.kl.2 g hg).2 hO0.size,fun g hg=>Nat.lt_of_lt_of_le (hT.tl.2 g hg).2 hO0.size⟩
 have rlt:∀ g,R0 g∨R1 g∨R2 g→g<w.heap.size:=fun g hg=>(hR.rg g hg).2
 have hB:∀ g,Blk (w.heap.size+1) tb cb rb kv tv g→¬R0 g∧¬R1 g∧¬R2 g∧g≠w.heap.size:=by
  have ltt:tb<w.heap.size:=World.block_lt_of_cell? w _ hT.c0
  have ltc:cb<w.heap.size:=World.block_lt_of_cell? w _ hT.k0
  have ltr:rb<w.heap.size:=World.block_lt_of_cell? w _ hR.a0
  rintro g (rfl |rfl |rfl |rfl |e |e)
  ·exact ⟨fun q=>by have:=rlt _ (.inl q);omega,fun q=>by have:=rlt _ (.inr (.inl q));omega,fun q=>by have:=rlt _ (.inr (.inr q));omega,by omega⟩
  ·exact ⟨(sep _ (.inl rfl)).1,(sep _ (.inl rfl)).2.1,(sep _ (.inl rfl)).2.2,by omega⟩
  ·exact ⟨(sep _ (.inr (.inl rfl))).1,(sep _ (.inr (.inl rfl))).2.1,(sep _ (.inr (.inl rfl))).2.2,by omega⟩
  ·exact ⟨(hR.st _ (.inl rfl)).2.1,(hR.st _ (.inl rfl)).2.2.1,(hR.st _ (.inl rfl)).2.2.2,by omega⟩
  ·exact ⟨(sep _ (.inr (.inr (.inl e)))).1,(sep _ (.inr (.inr (.inl e)))).2.1,(sep _ (.inr (.inr (.inl e)))).2.2,by have:=(hT.kl.2 g e).2;omega⟩
  ·exact ⟨(sep _ (.inr (.inr (.inr e)))).1,(sep _ (.inr (.inr (.inr e)))).2.1,(sep _ (.inr (.inr (.inr e)))).2.2,by have:=(hT.tl.2 g e).2;omega⟩
 have nz:¬R0 w.heap.size∧¬R1 w.heap.size∧¬R2 w.heap.size:=⟨fun q=>by have:=rlt _ (.inl q);omega,fun q=>by have:=rlt _ (.inr (.inl q));omega,fun q=>by have:=rlt _ (.inr (.inr q));omega⟩
 have HA0:=zc (zeN (w.heap.size+1) tb cb cc rb rc w.heap.size q0 q1 kb ub kc uc sb0 kv tv keys key text more R0 w0 hH hKn (c _ _ hR.a0) (c _ _ hR.a1) (c _ _ hR.c2) (c _ _ hR.c3) (c _ _ hR.c4) (c _ _ hR.k0) (c _ _ hR.u0) (hR.st _ (.inr (.inl rfl))).2.1 (hR.st _ (.inr (.inr (.inr (.inr rfl))))).2.1 nz.1 (by omega) (fun g hg=>⟨(hB g hg).1,(hB g hg).2.2.2⟩) hm (hR.rd0.young hO0) hs)
 have q1lt:q1<w.heap.size:=World.block_lt_of_cell? w _ hR.d0
 have HA1:Hid (∀ (w1:World) (O:Nat→Prop) (b:Bool),(∀ g,O g→(R0 g∧g≠11)∨g=w.heap.size)→ze O w0 w1→(b=true↔Hits keys key)→Hg w1 w.heap.size (b ||decide (more=1)) false false (!b && decide (more = -1))→Calls Tryz.prog 52 #[.pointer (some ⟨w.heap.size+1,0,none⟩),.int .i64 1] w1 fun x w'=>x = .returned (.tuple #[])∧∃ b0 b1 b2 b3,Hg w' w.heap.size b0 b1 b2 b3∧FailIs keys pat key text more f b1 b2 b3∧w'.cell? ⟨w.heap.size+1,2,none⟩=some (.slice (some ⟨w.heap.size,0,none⟩) 2 2)∧ze (fun g=>R0 g∨R1 g∨R2 g) w w'):=by
  intro w1 O b hO k1 hb hk
  have nO:∀ g,¬R0 g→g≠w.heap.size→¬O g:=fun g e1 e2 e=>(hO g e).elim (fun e=>e1 e.1) e2
  have nB:∀ g,Blk (w.heap.size+1) tb cb rb kv tv g→¬O g:=fun g hg=>nO g (hB g hg).1 (hB g hg).2.2.2
  have nq:¬O q1:=nO _ (hR.st _ (.inr (.inr (.inl rfl)))).2.1 (by omega)
  have nt:¬O 11:=fun e=>(hO _ e).elim (fun e=>e.2 rfl) (fun e=>by omega)
  have nr:=nB rb (.inr (.inr (.inr (.inl rfl))))
  have nR:∀ g,R1 g∨R2 g→¬O g:=fun g hg=>nO g (fun q=>hg.elim ((hR.dj g).1 q).1 ((hR.dj g).1 q).2) (by have:=rlt g (.inr hg);omega)
  refine (zeP (w.heap.size+1) tb cb cc rb rc w.heap.size q0 q1 sb1 kv tv fv keys pat key text more f b R1 R2 w1 (hH.keep k1 nB) hb hk (zg k1 _ _ (c _ _ hR.a0) nr) (zg k1 _ _ (c _ _ hR.a1) nr) (zg k1 _ _ (c _ _ hR.d0) nq) (zg k1 _ _ (c _ _ hR.d1) nq) ((hR.rd1.young hO0).keep k1 (fun g hg=>nR g (.inl hg)) nt) (hR.fm.imp_right (fun ⟨x1,s2,x2,x3⟩=>⟨x1,s2,x2,(x3.young hO0).keep k1 (fun g hg=>nR g (.inr hg)) nt⟩)) (fun g=>(hR.dj g).2) ⟨(hR.st _ (.inr (.inr (.inl rfl)))).2.2.1,by omega⟩ nz.2 (by omega) (fun g hg=>(hB g hg).2) hs').mono ?_
  rintro x w' ⟨rfl,b0,b1,b2,b3,hk2,hF,O2,hO2,k2⟩
  refine ⟨rfl,b0,b1,b2,b3,hk2,hF,zg k2 _ _ (zg k1 _ _ g2 (nB _ (.inl rfl))) (fun e=>?_),((hO0.mono (fun _ _ f=>f.elim)).laterO k1 (fun i hi q=>(hO i q).elim (fun e=>.inl e.1) (fun e=>by omega))).laterO k2 (fun i hi q=>(hO2 i q).elim (fun e=>.inr (.inl e)) (fun e=>e.elim (fun e=>.inr (.inr e)) (fun e=>by omega)))⟩
  have hh:=hB _ (.inl rfl)
  exact (hO2 _ e).elim hh.2.1 (fun e=>e.elim hh.2.2.1 hh.2.2.2)
 have nh:∀ O:Nat→Prop,(∀ g,O g→(R0 g∧g≠11)∨g=w.heap.size)→¬O (w.heap.size+1):=fun O hO e=>(hO _ e).elim (fun e=>(hB _ (.inl rfl)).1 e.1) (fun e=>by omega)
 have HG:Hid (∀ w1,ObjR w0 w1 R0 w.heap.size sb0 keys key more→w1.cell? ⟨w.heap.size+1,2,none⟩=some (.slice (some ⟨w.heap.size,0,none⟩) 2 2)):=fun w1 ⟨_,_,_,_,O,hO,k⟩=>zg k _ _ g2 (nh O hO)
 clear hT hR sep hm hs hs' hO0 hKn hH c rlt hB nz q1lt nh g0 g1 g2
 refine wp_loop_rounds 3 ?_
 rw [rounds_succ]
 go_wp2_with (go_at_call 52;refine (zb HA0).mono ?_;rintro e w1 ⟨rfl,hJ⟩;refine zb ?_)
 refine zc ?_
 have g2:=zb HG w1 hJ
 obtain ⟨b,hb,hk,-,O,hO,k1⟩:=hJ
 have HC:=zc (zb HA1 w1 O b hO k1 hb hk)
 have t8:=hk.t8
 have t9:=hk.t9
 have t10:=hk.t10
 have t11:=hk.t11
 clear hb hk hO k1 HA0 HA1 HG
 go_wp2_with fail
 refine wp_loop_rounds 5 ?_
 iterate 5 (rw [rounds_succ];go_wp2_with fail)
 rw [rounds_succ]
 clear t8 t9 t10 t11 g2
 go_wp2_with (go_at_call 52;refine (zb HC).mono ?_;rintro e w2 ⟨rfl,b0,b1,b2,b3,hk,hF,g2,hO⟩;refine zb ?_)
 refine zc ?_
 have t20:=hk.t20
 have t21:=hk.t21
 have t22:=hk.t22
 have t23:=hk.t23
 have hno:=hF.no
 have s2:=hO.size
 have HE:Hid (∀ v w',FailSl w' v (fws b1 b2 b3)→ze (fun _=>False) w2 w'→∃ b1 b2 b3 u,Ending.returned v = .returned u∧FailSl w' u (fws b1 b2 b3)∧FailIs keys pat key text more f b1 b2 b3∧ze (fun g=>R0 g∨R1 g∨R2 g) w w'):=fun v w' hv k=>⟨b1,b2,b3,v,rfl,hv,hF,hO.laterO k (fun _ _ f=>f.elim)⟩
 clear hk hF hO HC
 by_cases hall:b1=true∧b2=true
 ·obtain ⟨rfl,rfl⟩:=hall
  obtain rfl:b3=false:=hno.resolve_right (fun e=>by simp at e)
  go_wp2_with fail
  refine wp_loop_rounds 5 ?_
  rw [rounds_succ]
  go_wp2_with fail
  rw [rounds_succ]
  go_wp2_with (at_builtin;refine zb ?_)
  refine zc ?_
  refine xH _ rfl _ _ 42 rfl w2.heap.size 49 i0 (.agg #[.int .i64 0,.int .i64 0]) 2 16 Tryz.underlying42 hi0 hz0 hz1 hz2 rfl (by decide) _ _ _ rfl (World.ownsRow_nil _ _ _ _) _ 1 1 [.int .i64 1,.int .i64 1] rfl rfl (cell_two_new _ _ _ _) (fun x hx=>by simp at hx;subst hx;rfl) (by unfold maxLen;omega) (by omega) (by simp) ?_
  intro v3 w3 hrow3 hgrow3 _
  obtain ⟨xa,xc,rfl⟩:=Qc hrow3
  have hO3:ze (fun _=>False) w2 w3:=((ze.refl _ w2).alloc _).grown hgrow3 (fun j hj=>by have hj':(Value.slice none 0 0).ownBlock=some j:=hj;simp [Value.ownBlock] at hj')
  have HRow3:=zc hrow3
  have HO3:=zc hO3
  have s3:=hO3.size
  clear hrow3 hgrow3 hO3 t20 t21 t22 t23 g2
  go_wp2_with fail
  rw [rounds_succ]
  go_wp2_with (at_builtin;refine zb ?_)
  refine zc ?_
  have hblk:=zh (zb HRow3)
  refine xH _ rfl _ _ 42 rfl w2.heap.size 49 i0 (.agg #[.int .i64 0,.int .i64 0]) 2 16 Tryz.underlying42 hi0 hz0 hz1 hz2 rfl (by decide) _ _ _ rfl (World.ownsRow.alloc (zb HRow3) _) _ 1 1 [.int .i64 1,.int .i64 2] rfl rfl (cell_two_new _ _ _ _) (fun x hx=>by simp at hx;rcases hx with rfl |rfl<;>rfl) (by unfold maxLen;omega) (by omega) (by simp;omega) ?_
  intro v4 w4 hrow4 hgrow4 _
  have hO4:ze (fun g=>w2.heap.size≤g) w3 w4:=((ze.refl _ w3).alloc _).grown hgrow4 (fun j hj=>.inl (hblk j hj).1)
  have HO4:Hid (ze (fun _=>False) w2 w4):=(zb HO3).later hO4 (fun i hi=>hi)
  have HF:Hid (FailSl w4 v4 [1,2]):=by
   rcases hrow4.2 with ⟨_,hbad⟩ |⟨rb4,rc4,cur,rfl,_⟩
   ·simp at hbad
   refine ⟨_,rc4,rfl,fun j x hj=>?_⟩
   match j,hj with
   |0,hj=>
    have e:1=x:=by simpa using hj
    subst e
    exact ⟨rb4,rfl,hrow4.cellAt 0 (by decide),hrow4.cellAt 1 (by decide)⟩
   |1,hj=>
    have e:2=x:=by simpa using hj
    subst e
    exact ⟨rb4,rfl,hrow4.cellAt 2 (by decide),hrow4.cellAt 3 (by decide)⟩
   |j+2,hj=>simp at hj
  obtain ⟨ya,yc,rfl⟩:=Qc hrow4
  clear hrow4 hgrow4 hO4 hblk HRow3 HO3
  go_wp2_with fail
  iterate 2 (rw [rounds_succ];go_wp2_with fail)
  rw [rounds_succ]
  go_wp2_with fail
  go_ret
  exact zb HE _ _ (zb HF) (zb HO4)
 ·rcases hno with rfl |⟨rfl,rfl⟩
  ·cases b1
   ·cases b2
    ·go_wp2_with fail
     refine wp_loop_rounds 5 ?_
     iterate 5 (rw [rounds_succ];go_wp2_with fail)
     rw [rounds_succ]
     go_wp2_with fail
     go_ret
     exact zb HE _ _ ⟨none,0,rfl,fun j x hj=>by simp [fws] at hj⟩ (ze.refl _ _)
    ·go_wp2_with fail
     refine wp_loop_rounds 5 ?_
     iterate 5 (rw [rounds_succ];go_wp2_with fail)
     rw [rounds_succ]
     go_wp2_with fail
     go_ret
     exact zb HE _ _ (fail_one w2 _ 2 _ _ _) (ze.drew (keep3 _ _))
   ·cases b2
    ·go_wp2_with fail
     refine wp_loop_rounds 5 ?_
     iterate 5 (rw [rounds_succ];go_wp2_with fail)
     rw [rounds_succ]
     go_wp2_with fail
     go_ret
     exact zb HE _ _ (fail_one w2 _ 1 _ _ _) (ze.drew (keep3 _ _))
    ·exact absurd ⟨rfl,rfl⟩ hall
  ·cases b3
   ·go_wp2_with fail
    refine wp_loop_rounds 5 ?_
    iterate 5 (rw [rounds_succ];go_wp2_with fail)
    rw [rounds_succ]
    go_wp2_with fail
    go_ret
    exact zb HE _ _ ⟨none,0,rfl,fun j x hj=>by simp [fws] at hj⟩ (ze.refl _ _)
   ·go_wp2_with fail
    refine wp_loop_rounds 5 ?_
    iterate 5 (rw [rounds_succ];go_wp2_with fail)
    rw [rounds_succ]
    go_wp2_with fail
    go_ret
    exact zb HE _ _ (fail_one w2 _ 3 _ _ _) (ze.drew (keep3 _ _))
theorem text_is {s:ByteArray}(h:Kc.textB s=true):(Ref.zo s).2<0∧s.size≤400:=by
 unfold Kc.textB at h
 simp at h
 exact ⟨h.1,by omega⟩
theorem TreeAt.keep {w w':World}{base tb cb cc:Nat}{kv tv:Value}{key text:ByteArray}(h:TreeAt w base tb cb cc kv tv key text)(k:ze (fun _=>False) w w'):TreeAt w' base tb cb cc kv tv key text:=
 have c:=fun p v hp=>zg k p v hp (fun f=>f)
 ⟨c _ _ h.c0,c _ _ h.c3,c _ _ h.c4,c _ _ h.c5,c _ _ h.c6,c _ _ h.k0,h.kl.keep k (fun _ _ f=>f),h.tl.keep k (fun _ _ f=>f),h.bt,h.bc⟩
theorem zep (nb gb kb ub n1 n2:Nat)(keys pat key text:ByteArray)(more:Int)(f:Nat)(w:World)(a:Nat→Addr)(hS:Start w a)(hTb:TabAt w)(hD:DocAt w nb key text)(h0:Sch0 w gb kb ub keys more)(h1:Sch1 w gb pat f)(hm:more = -2∨more = -1∨more=1)(hf:f≤6)(hI:qD keys)(hJ:qD pat)(hn1:2≤n1)(hn2:2≤n2)(hs:Kc.textB key=true)(hs':Kc.textB text=true) :
  Calls Tryz.prog 12 #[.slice (some ⟨nb,0,none⟩) 2 n1,.slice (some ⟨gb,0,none⟩) 2 n2] w fun x w'=>∃ b1 b2 b3 b n c,x = .returned (.tuple #[.slice b n c,.int .i64 0,.int .i64 0])∧FailSl w' (.slice b n c) (fws b1 b2 b3)∧FailIs keys pat key text more f b1 b2 b3∧ze (fun _=>False) w w':=by
 have k1:=(text_is hs).1
 have k2:=(text_is hs).2
 have t1:=(text_is hs').1
 have t2:=(text_is hs').2
 have HD:=zc (zeF nb n1 key text w a hS.sents hS.size hD hn1 k2 k1 t2 t1)
 have HR:Hid (∀ V,ze (fun _=>False) w V→_):=fun V hV=>zeI gb kb ub keys pat more f n2 V a (hS.keep hV) (hTb.keep hV (fun f=>f)) (h0.keep hV) (h1.keep hV) hm hf hI hJ hn2
 have htl:=hTb.lt
 clear hS hTb hD h0 h1 k1 k2 t1 t2 hI hJ
 go_enter Tryz.func12,Tryz.ntmps12
 go_wp2_with (go_at_call 24;refine (zb HD).mono ?_;rintro e w1 ⟨tb,cb,cc,kv,tv,rfl,hT,hO1⟩;refine zb ?_)
 refine zc ?_
 have HR1:=zc (zb HR w1 hO1)
 have HT:=zc hT
 have HO1:=zc hO1
 clear hT hO1 HD HR
 go_wp2_with (go_at_call 27;refine (zb HR1).mono ?_;rintro e w2 ⟨rb,rc,q0,q1,kb',ub',kc,uc,R0,R1,R2,sb0,sb1,fv,rfl,hRu,hO2⟩;refine zb ?_)
 refine zc ?_
 have s1:=(zb HO1).size
 have s2:=hO2.size
 have HFa:=zc (zeQ w.heap.size w1.heap.size tb cb cc rb rc q0 q1 kb' ub' kc uc sb0 sb1 kv tv fv keys pat key text more f R0 R1 R2 w2 ((zb HT).keep hO2) hRu (fun g hg=>by
  have hlt:g<w1.heap.size:=by
   rcases hg with rfl |rfl |e |e
   ·exact World.block_lt_of_cell? w1 _ (zb HT).c0
   ·exact World.block_lt_of_cell? w1 _ (zb HT).k0
   ·exact ((zb HT).kl.2 g e).2
   ·exact ((zb HT).tl.2 g e).2
  exact ⟨fun q=>by have:=(hRu.rg g (.inl q)).1;omega,fun q=>by have:=(hRu.rg g (.inr (.inl q))).1;omega,fun q=>by have:=(hRu.rg g (.inr (.inr q))).1;omega⟩) (by omega) hm hs hs')
 have HRg:Hid (∀ g,R0 g∨R1 g∨R2 g→w.heap.size≤g):=fun g hg=>by have:=(hRu.rg g hg).1;omega
 have HO2:=zc ((zb HO1).trans hO2)
 clear hRu hO2 HR1 HT HO1
 go_wp2_with (go_at_call 28;refine (zb HFa).mono ?_;rintro e w3 ⟨b1,b2,b3,v,rfl,hv,hF,hO3⟩;refine zb ?_)
 refine zc ?_
 have HE:=zc (And.intro hv (And.intro hF ((zb HO2).later hO3 (zb HRg))))
 obtain ⟨xb,xc,rfl,-⟩:=hv
 clear hF hO3 HFa HRg HO2
 go_wp2_with fail
 go_ret3
 exact ⟨b1,b2,b3,xb,_,xc,rfl,(zb HE).1,(zb HE).2.1,(zb HE).2.2⟩
theorem zey (c:Int)(w:World)(h1:-9223372036854775808≤c)(h2:c≤9223372036854775807) :
  Calls Tryz.prog 11 #[.int .i64 c,.int .i64 7] w fun x w'=>∃ m:Nat,x = .returned (.int .i64 m)∧m<7∧w'=w:=by
 by_cases hc:c<0
 ·go_enter Tryz.func11,Tryz.ntmps11
  go_wp2_with fail
  go_ret
  have e:-(c+1).tmod 7=(-(c+1)) % 7:=by rw [←Int.neg_tmod,Int.tmod_eq_emod_of_nonneg (by omega)]
  refine ⟨((-(c+1)) % 7).toNat,?_,by omega,rfl⟩
  rw [show ((((-(c+1)) % 7).toNat:Nat):Int) = -(c+1).tmod 7 by omega]
  rfl
 ·go_enter Tryz.func11,Tryz.ntmps11
  go_wp2_with fail
  go_ret
  refine ⟨(c % 7).toNat,?_,by omega,rfl⟩
  rw [show (((c % 7).toNat:Nat):Int)=c % 7 by omega]
  rfl
theorem zez (c:Int)(w:World)(h1:-9223372036854775808≤c)(h2:c≤9223372036854775807) :
  Calls Tryz.prog 11 #[.int .i64 c,.int .i64 3] w fun x w'=>∃ m:Nat,x = .returned (.int .i64 m)∧m<3∧w'=w:=by
 by_cases hc:c<0
 ·go_enter Tryz.func11,Tryz.ntmps11
  go_wp2_with fail
  go_ret
  have e:-(c+1).tmod 3=(-(c+1)) % 3:=by rw [←Int.neg_tmod,Int.tmod_eq_emod_of_nonneg (by omega)]
  refine ⟨((-(c+1)) % 3).toNat,?_,by omega,rfl⟩
  rw [show ((((-(c+1)) % 3).toNat:Nat):Int) = -(c+1).tmod 3 by omega]
  rfl
 ·go_enter Tryz.func11,Tryz.ntmps11
  go_wp2_with fail
  go_ret
  refine ⟨(c % 3).toNat,?_,by omega,rfl⟩
  rw [show (((c % 3).toNat:Nat):Int)=c % 3 by omega]
  rfl
theorem kmat_eq {p s:ByteArray}{b:Bool}(h:Hits p s↔b=true)(w:World)(a:Nat→Addr)(base:Nat)(hB:wd w a base) :
  Calls Tryz.prog 13 #[.string p,.string s] w fun x w'=>x = .returned (.bool b)∧ze (fun _=>False) w w':=by
 refine (zdF p s w a base hB).mono ?_
 rintro x w' ⟨⟨b',rfl,hb⟩,hO⟩
 exact ⟨by rw [Bool.eq_iff_iff.2 (hb.trans h)],hO⟩
theorem kf (p s:ByteArray):∃ b:Bool,Hits p s↔b=true:=by
 classical
 exact ⟨decide (Hits p s),by simp⟩
theorem zeo (w:World)(k:Int):∀ o r T,((w.alloc o).alloc (.cells (#[.int .i64 k]++r) T)).cell? ⟨w.heap.size+1,0,none⟩=some (.int .i64 k):=fun o r T=>zm (w.alloc o) _ (by simp) _ _ 0 _ (by rw [Array.getElem?_append_left (by simp)];rfl)
theorem FailSl.keep {w w':World}{v:Value}{ws:List Int}(h:FailSl w v ws)(k:ze (fun _=>False) w w'):FailSl w' v ws:=by
 obtain ⟨b,c,h1,h2⟩:=h
 refine ⟨b,c,h1,fun j x hj=>?_⟩
 obtain ⟨g,e1,e2,e3⟩:=h2 j x hj
 exact ⟨g,e1,zg k _ _ e2 (fun f=>f),zg k _ _ e3 (fun f=>f)⟩
theorem FailIs.calc {keys pat key text:ByteArray}{more:Int}{f:Nat}{b1 b2 b3 K P F:Bool}(h:FailIs keys pat key text more f b1 b2 b3)(hK:Hits keys key↔K=true)(hP:Hits pat text↔P=true)(hF:Hits (fmtS f) text↔F=true):b1=((K ||decide (more=1)) && !P)∧b2=((K ||decide (more=1)) && (!decide (f=0) && !F))∧b3=(!K && decide (more = -1)):=by
 refine ⟨Bool.eq_iff_iff.2 (h.e1.trans ?_),Bool.eq_iff_iff.2 (h.e2.trans ?_),Bool.eq_iff_iff.2 (h.e3.trans ?_)⟩
 ·rw [hK,hP];simp
 ·rw [hK,hF];simp
 ·rw [hK];simp
def heW (w:World)(keys pat key text:ByteArray)(f:Nat)(more:Int):World:=((((w.alloc (.cells #[.bool true,.string pat,.int .i64 (f:Nat),.slice none 0 0,.slice none 0 0,.int .i64 (-2)] 39)).alloc (.cells #[.string keys] 9)).alloc (.cells #[.int .i64 1] 3)).alloc (.cells #[.bool false,.string ⟨#[]⟩,.int .i64 0,.slice (some ⟨w.heap.size+1,0,none⟩) 1 1,.slice (some ⟨w.heap.size+1+1,0,none⟩) 1 1,.int .i64 more,.bool true,.string pat,.int .i64 (f:Nat),.slice none 0 0,.slice none 0 0,.int .i64 (-2)] 39)).alloc (.cells #[.int .i64 5,.int .i64 (-1),.string ⟨#[]⟩,.string ⟨#[]⟩,.int .i64 3,.int .i64 0,.string key,.string text] 41)
theorem heW_val (w:World)(keys pat key text:ByteArray)(f:Nat)(more:Int)(a:Nat→Addr)(hS:Start w a)(hTb:TabAt w)(hm:more = -2∨more = -1∨more=1)(hf:f≤6)(hI:qD keys)(hJ:qD pat)(hs:Kc.textB key=true)(hs':Kc.textB text=true) :
  Calls Tryz.prog 12 #[.slice (some ⟨w.heap.size+1+1+1+1,0,none⟩) 2 2,.slice (some ⟨w.heap.size+1+1+1,0,none⟩) 2 2] (heW w keys pat key text f more) fun x w'=>∃ b1 b2 b3 b n c,x = .returned (.tuple #[.slice b n c,.int .i64 0,.int .i64 0])∧FailSl w' (.slice b n c) (fws b1 b2 b3)∧FailIs keys pat key text more f b1 b2 b3∧ze (fun _=>False) w w':=by
 have k0:ze (fun _=>False) w (w.alloc (.cells #[.bool true,.string pat,.int .i64 (f:Nat),.slice none 0 0,.slice none 0 0,.int .i64 (-2)] 39)):=(ze.refl _ _).alloc _
 have z0:(w.alloc (.cells #[.bool true,.string pat,.int .i64 (f:Nat),.slice none 0 0,.slice none 0 0,.int .i64 (-2)] 39)).heap.size=w.heap.size+1:=by simp
 unfold heW
 generalize w.alloc (.cells #[.bool true,.string pat,.int .i64 (f:Nat),.slice none 0 0,.slice none 0 0,.int .i64 (-2)] 39)=v0 at *
 have k1:ze (fun _=>False) v0 (v0.alloc (.cells #[.string keys] 9)):=(ze.refl _ _).alloc _
 have z1:(v0.alloc (.cells #[.string keys] 9)).heap.size=w.heap.size+1+1:=by simp [z0]
 have e1:=zm v0 _ z0 #[.string keys] 9 0 _ rfl
 generalize v0.alloc (.cells #[.string keys] 9)=v1 at *
 have k2:ze (fun _=>False) v1 (v1.alloc (.cells #[.int .i64 1] 3)):=(ze.refl _ _).alloc _
 have z2:(v1.alloc (.cells #[.int .i64 1] 3)).heap.size=w.heap.size+1+1+1:=by simp [z1]
 have e2:=zm v1 _ z1 #[.int .i64 1] 3 0 _ rfl
 generalize v1.alloc (.cells #[.int .i64 1] 3)=v2 at *
 have k3:ze (fun _=>False) v2 (v2.alloc (.cells #[.bool false,.string ⟨#[]⟩,.int .i64 0,.slice (some ⟨w.heap.size+1,0,none⟩) 1 1,.slice (some ⟨w.heap.size+1+1,0,none⟩) 1 1,.int .i64 more,.bool true,.string pat,.int .i64 (f:Nat),.slice none 0 0,.slice none 0 0,.int .i64 (-2)] 39)):=(ze.refl _ _).alloc _
 have z3:(v2.alloc (.cells #[.bool false,.string ⟨#[]⟩,.int .i64 0,.slice (some ⟨w.heap.size+1,0,none⟩) 1 1,.slice (some ⟨w.heap.size+1+1,0,none⟩) 1 1,.int .i64 more,.bool true,.string pat,.int .i64 (f:Nat),.slice none 0 0,.slice none 0 0,.int .i64 (-2)] 39)).heap.size=w.heap.size+1+1+1+1:=by simp [z2]
 have e3:=fun (j:Nat) v h=>zm v2 _ z2 #[.bool false,.string ⟨#[]⟩,.int .i64 0,.slice (some ⟨w.heap.size+1,0,none⟩) 1 1,.slice (some ⟨w.heap.size+1+1,0,none⟩) 1 1,.int .i64 more,.bool true,.string pat,.int .i64 (f:Nat),.slice none 0 0,.slice none 0 0,.int .i64 (-2)] 39 j v h
 have h0:=e3 0 _ rfl
 have h2:=e3 2 _ rfl
 have h3:=e3 3 _ rfl
 have h4:=e3 4 _ rfl
 have h5:=e3 5 _ rfl
 have h6:=e3 6 _ rfl
 have h7:=e3 7 _ rfl
 have h8:=e3 8 _ rfl
 have h9:=e3 9 _ rfl
 have h10:=e3 10 _ rfl
 have h11:=e3 11 _ rfl
 clear e3
 generalize v2.alloc (.cells #[.bool false,.string ⟨#[]⟩,.int .i64 0,.slice (some ⟨w.heap.size+1,0,none⟩) 1 1,.slice (some ⟨w.heap.size+1+1,0,none⟩) 1 1,.int .i64 more,.bool true,.string pat,.int .i64 (f:Nat),.slice none 0 0,.slice none 0 0,.int .i64 (-2)] 39)=v3 at *
 have k4:ze (fun _=>False) v3 (v3.alloc (.cells #[.int .i64 5,.int .i64 (-1),.string ⟨#[]⟩,.string ⟨#[]⟩,.int .i64 3,.int .i64 0,.string key,.string text] 41)):=(ze.refl _ _).alloc _
 have e4:=fun (j:Nat) v h=>zm v3 _ z3 #[.int .i64 5,.int .i64 (-1),.string ⟨#[]⟩,.string ⟨#[]⟩,.int .i64 3,.int .i64 0,.string key,.string text] 41 j v h
 have hD:DocAt (v3.alloc (.cells #[.int .i64 5,.int .i64 (-1),.string ⟨#[]⟩,.string ⟨#[]⟩,.int .i64 3,.int .i64 0,.string key,.string text] 41)) (w.heap.size+1+1+1+1) key text:=⟨e4 0 _ rfl,e4 1 _ rfl,e4 2 _ rfl,e4 3 _ rfl,e4 4 _ rfl,e4 5 _ rfl,e4 6 _ rfl,e4 7 _ rfl⟩
 clear e4
 generalize v3.alloc (.cells #[.int .i64 5,.int .i64 (-1),.string ⟨#[]⟩,.string ⟨#[]⟩,.int .i64 3,.int .i64 0,.string key,.string text] 41)=v4 at *
 have K:=(((k0.trans k1).trans k2).trans k3).trans k4
 have c:∀ p v,v3.cell? p=some v→v4.cell? p=some v:=fun p v h=>zg k4 p v h (fun f=>f)
 refine (zep (w.heap.size+1+1+1+1) (w.heap.size+1+1+1) (w.heap.size+1) (w.heap.size+1+1) 2 2 keys pat key text more f v4 a (hS.keep K) (hTb.keep K (fun f=>f)) hD ⟨c _ _ h0,c _ _ h2,c _ _ h3,c _ _ h4,c _ _ h5,zg ((k2.trans k3).trans k4) _ _ e1 (fun f=>f),zg (k3.trans k4) _ _ e2 (fun f=>f)⟩ ⟨c _ _ h6,c _ _ h7,c _ _ h8,c _ _ h9,c _ _ h10,c _ _ h11⟩ hm hf hI hJ (by decide) (by decide) hs hs').mono ?_
 rintro x w' ⟨b1,b2,b3,b,n,cc,rfl,hv,hF,hO⟩
 exact ⟨b1,b2,b3,b,n,cc,rfl,hv,hF,K.trans hO⟩
set_option maxHeartbeats 16000000
set_option maxRecDepth 1000000
theorem Tryz.infoIntH:(Tryz.prog.info? 3).map (fun i=>(i.zero,i.size,i.bytes))=some (some (.int .i64 0),1,8):=by kernel_rfl
theorem heldLaw (key text keys pat:ByteArray)(fo mo:Int)(w:World)(a:Nat→Addr)(hB:wd w a w.heap.size)(hk:key.size≤1099511627776)(ht:text.size≤1099511627776)(f1:-9223372036854775808≤fo)(f2:fo≤9223372036854775807)(m1:-9223372036854775808≤mo)(m2:mo≤9223372036854775807) :
  Calls Tryz.prog 5 #[.string key,.string text,.string keys,.string pat,.int .i64 fo,.int .i64 mo] w fun x w'=>x = .returned (.bool true)∧ze (fun _=>False) w w':=by
 obtain ⟨i0,hi0,hz0,hz1,hz2⟩:=info_parts Tryz.infoIntH
 have HB:=zc hB
 have HSu:=zc (wg w a _ hB)
 have HI1:=zc (fun V=>Xe key V hk)
 have HI2:=zc (fun V=>Xe text V ht)
 have HP1:=zc (zey fo · f1 f2)
 have HP2:=zc (zez mo · m1 m2)
 clear hB hk ht f1 f2 m1 m2
 go_enter Tryz.func5,Tryz.ntmps5
 go_wp2_with (go_at_call 8;refine (zb HSu).mono ?_;rintro e w1 ⟨rfl,hO1⟩;refine zb ?_)
 refine zc ?_
 have HO1:=zc hO1
 clear hO1 HSu
 go_wp2_with (go_at_call 9;refine (zb HI1 w1).mono ?_;rintro e w2 ⟨rfl,hO2⟩;refine zb ?_)
 refine zc ?_
 have HO2:=zc ((zb HO1).trans hO2)
 clear hO2 HO1 HI1
 go_wp2_with (go_at_call 9;refine (zb HI2 w2).mono ?_;rintro e w3 ⟨rfl,hO3⟩;refine zb ?_)
 refine zc ?_
 have HO3:=zc ((zb HO2).trans hO3)
 have HTk:=zc (Z5 keys w3 a ((zb HB).keep (zb HO3) (fun _ f=>f.elim)).st)
 clear hO3 HO2 HI2
 go_wp2_with (go_at_call 10;refine zb ?_)
 refine zc ?_
 refine (zb HTk).mono ?_
 intro x w4 hx
 obtain ⟨hO4,hx⟩:=hx
 have HO4:=zc ((zb HO3).trans hO4)
 have HTk2:=zc (Z5 pat w4 a ((zb HB).keep (zb HO4) (fun _ f=>f.elim)).st)
 obtain ⟨pv,hpv,hI⟩:∃ pv,x = .returned (.pointer pv)∧(pv≠none→qD keys):=by
  rcases hx with ⟨rfl,_⟩ |⟨hI,g,_,_,_,_,rfl,_⟩
  ·exact ⟨none,rfl,fun e=>absurd rfl e⟩
  ·exact ⟨_,rfl,fun _=>hI⟩
 subst hpv
 have HI:=zc hI
 clear hx hO4 HO3 HTk hI
 go_wp2_with (go_at_call 10;refine zb ?_)
 refine zc ?_
 refine (zb HTk2).mono ?_
 intro x w5 hx
 obtain ⟨hO5,hx⟩:=hx
 have HO5:=zc ((zb HO4).trans hO5)
 obtain ⟨qv,hqv,hJ⟩:∃ qv,x = .returned (.pointer qv)∧(qv≠none→qD pat):=by
  rcases hx with ⟨rfl,_⟩ |⟨hI,g,_,_,_,_,rfl,_⟩
  ·exact ⟨none,rfl,fun e=>absurd rfl e⟩
  ·exact ⟨_,rfl,fun _=>hI⟩
 subst hqv
 have HJ:=zc hJ
 clear hx hO5 HO4 HTk2 hJ
 by_cases hall:Kc.textB key=true∧Kc.textB text=true∧pv≠none∧qv≠none
 ·obtain ⟨hk,ht,hp,hq⟩:=hall
  obtain ⟨pv,rfl⟩:=Option.ne_none_iff_exists'.1 hp
  obtain ⟨qv,rfl⟩:=Option.ne_none_iff_exists'.1 hq
  have HIk:=zc (zb HI hp)
  have HIp:=zc (zb HJ hq)
  have Hks:=zc hk
  have Hts:=zc ht
  rw [hk,ht]
  clear hp hq HI HJ hk ht
  go_wp2_with (go_at_call 11;refine (zb HP1 w5).mono ?_;rintro e wq ⟨f,rfl,hf,hwq⟩;obtain rfl:=hwq.symm;clear hwq;refine zb ?_)
  refine zc ?_
  go_wp2_with (go_at_call 11;refine (zb HP2 w5).mono ?_;rintro e wq ⟨m,rfl,hm,hwq⟩;obtain rfl:=hwq.symm;clear hwq;refine zb ?_)
  refine zc ?_
  obtain ⟨K,hK⟩:=kf keys key
  obtain ⟨P,hP⟩:=kf pat text
  obtain ⟨F,hF⟩:=kf (fmtS f) text
  have HV:Hid (∀ more:Int,more = -2∨more = -1∨more=1→_):=fun more hm=>heW_val w5 keys pat key text f more a ((zb HB).keep (zb HO5) (fun _ f=>f.elim)).st ((zb HB).keep (zb HO5) (fun _ f=>f.elim)).tab hm (by omega) (zb HIk) (zb HIp) (zb Hks) (zb Hts)
  unfold heW at HV
  have HMk:Hid (∀ V,ze (fun _=>False) w5 V→_):=fun V hV=>kmat_eq hK V a w.heap.size (((zb HB).keep (zb HO5) (fun _ f=>f.elim)).keep hV (fun _ f=>f.elim))
  have HMp:Hid (∀ V,ze (fun _=>False) w5 V→_):=fun V hV=>kmat_eq hP V a w.heap.size (((zb HB).keep (zb HO5) (fun _ f=>f.elim)).keep hV (fun _ f=>f.elim))
  have HMf:Hid (∀ V,ze (fun _=>False) w5 V→_):=fun V hV=>kmat_eq hF V a w.heap.size (((zb HB).keep (zb HO5) (fun _ f=>f.elim)).keep hV (fun _ f=>f.elim))
  have HCal:Hid (∀ more b1 b2 b3,FailIs keys pat key text more f b1 b2 b3→_):=fun more b1 b2 b3 h=>FailIs.calc h hK hP hF
  have HFm:=zc (fun (h:f≠0) V=>zer f (by omega) (by omega) V)
  have hf6:f≤6:=by omega
  clear hK hP hF HIk HIp Hks Hts HP1 HP2 HB hf
  have hsp:(K=true∧m=0∨K=true∧m=1∨K=true∧m=2∨K=false∧m=2)∨(K=false∧m=0)∨(K=false∧m=1):=by
   cases K
   ·rcases (show m=0∨m=1∨m=2 by omega) with e |e |e
    ·exact .inr (.inl ⟨rfl,e⟩)
    ·exact .inr (.inr ⟨rfl,e⟩)
    ·exact .inl (.inr (.inr (.inr ⟨rfl,e⟩)))
   ·rcases (show m=0∨m=1∨m=2 by omega) with e |e |e
    ·exact .inl (.inl ⟨rfl,e⟩)
    ·exact .inl (.inr (.inl ⟨rfl,e⟩))
    ·exact .inl (.inr (.inr (.inl ⟨rfl,e⟩)))
  rcases hsp with hA |⟨rfl,rfl⟩ |⟨rfl,rfl⟩
  ·rcases hA with ⟨rfl,rfl⟩ |⟨rfl,rfl⟩ |⟨rfl,rfl⟩ |⟨rfl,rfl⟩
   all_goals
    clear hm
    go_wp2_with (go_at_call 12;refine (zb HV _ (by decide)).mono ?_;rintro e w6 ⟨b1,b2,b3,b,n,c,rfl,hv,hF,hO6⟩;refine zb ?_)
    refine zc ?_
    obtain ⟨e1,e2,e3⟩:=zb HCal _ _ _ _ hF
    have hb:fws b1 b2 b3=fws (!P) (!decide (f=0) && !F) false:=by rw [e1,e2,e3];simp
    rw [hb] at hv
    have HO6:=zc hO6
    have Hv:=zc hv
    clear hF hO6 HV HCal e1 e2 e3 hb hv
    go_wp2_with (go_at_call 13;refine (zb HMk w6 (zb HO6)).mono ?_;rintro e w7 ⟨rfl,hO7⟩;refine zb ?_)
    refine zc ?_
    have HO7:=zc ((zb HO6).trans hO7)
    have Hv7:=zc ((zb Hv).keep hO7)
    clear hO7 HMk Hv HO6
    go_wp2_with (go_at_call 13;refine (zb HMp w7 (zb HO7)).mono ?_;rintro e w8 ⟨rfl,hO8⟩;refine zb ?_)
    refine zc ?_
    have HO8:=zc ((zb HO7).trans hO8)
    have Hv8:=zc ((zb Hv7).keep hO8)
    clear hO8 HMp Hv7 HO7
    cases P
    ·go_wp2_with (at_builtin;refine zb ?_)
     refine zc ?_
     refine xH _ rfl _ _ 27 rfl w8.heap.size 3 i0 (.int .i64 0) 1 8 Tryz.underlying27 hi0 hz0 hz1 hz2 rfl (by decide) _ _ _ rfl (World.ownsRow_nil _ _ _ _) _ 1 1 [.int .i64 1] rfl rfl (cell_one_new _ _ _) (fun x hx=>by simp at hx;subst hx;rfl) (by unfold maxLen;omega) (by omega) (by simp) ?_
     intro v9 w9 hrow9 hgrow9 _
     obtain ⟨xa,xc,rfl⟩:=Qc hrow9
     have hO9:ze (fun _=>False) w8 w9:=((ze.refl _ w8).alloc _).grown hgrow9 (fun j hj=>by have hj':(Value.slice none 0 0).ownBlock=some j:=hj;simp [Value.ownBlock] at hj')
     have HRow9:=zc hrow9
     have HO9:=zc ((zb HO8).trans hO9)
     have Hv9:=zc ((zb Hv8).keep hO9)
     have s9:=hO9.size
     have Hv8c:Hid (∀ g,b=some ⟨g,0,none⟩→w8.cell? ⟨g,0,none⟩=some (.int .i64 1)):=fun g hg=>by
      obtain ⟨b',c',hv0,hv⟩:=zb Hv8
      obtain ⟨g',hbg,v0,v1⟩:=hv 0 1 (by simp [fws])
      simp at hv0
      rw [←hv0.1,hg] at hbg
      cases hbg
      exact v0
     clear hrow9 hgrow9 hO9 Hv8
     by_cases h0:f=0
     ·subst h0
      have hrow:=zb HRow9
      rcases hrow.2 with ⟨_,hbad⟩ |⟨rb,rc,cur,hsl,_⟩
      ·simp at hbad
      cases hsl
      have y0:w9.cell? ⟨rb,0,none⟩=some (.int .i64 1):=hrow.cellAt 0 (by decide)
      obtain ⟨b',c',hv0,hv⟩:=zb Hv9
      obtain ⟨g,hbg,v0,v1⟩:=hv 0 1 (by simp [fws])
      simp [fws] at hv0
      obtain ⟨rfl,rfl,rfl⟩:=hv0
      subst hbg
      clear hv hrow HMf HFm
      go_wp2_with fail
      refine wp_loop_rounds 2 ?_
      rw [rounds_succ]
      go_wp2_with fail
      go_quiet (fail)
      go_wp2_with fail
      rw [rounds_succ]
      go_wp2_with fail
      go_ret
      exact ⟨rfl,ze.drewN ((zb HO5).trans (zb HO9)) _⟩
     ·have hpos:decide ((0:Int)<(f:Int))=true:=by simp;omega
      have HFm9:=zc (zb HFm h0 w9)
      go_wp2_with (go_at_call 14;refine (zb HFm9).mono ?_;rintro e w10 ⟨rfl,hO10⟩;refine zb ?_)
      refine zc ?_
      have HO10:=zc ((zb HO9).trans hO10)
      have Hk:=zc hO10
      clear hO10 HFm9 HFm
      go_wp2_with (go_at_call 13;refine (zb HMf w10 (zb HO10)).mono ?_;rintro e w11 ⟨rfl,hO11⟩;refine zb ?_)
      refine zc ?_
      have HO11:=zc ((zb HO10).trans hO11)
      have Hv11:=zc (((zb Hv9).keep (zb Hk)).keep hO11)
      have HRow11:=zc (zn (zb HRow9) ((zb Hk).trans hO11) (fun _ _ f=>f))
      have s11:=((zb Hk).trans hO11).size
      clear hO11 HMf Hk HO10 HRow9 Hv9
      cases F
      ·go_wp2_with (at_builtin;refine zb ?_)
       refine zc ?_
       have hblk:=zh (zb HRow11)
       refine xH _ rfl _ _ 27 rfl w8.heap.size 3 i0 (.int .i64 0) 1 8 Tryz.underlying27 hi0 hz0 hz1 hz2 rfl (by decide) _ _ _ rfl (World.ownsRow.alloc (zb HRow11) _) _ 1 1 [.int .i64 2] rfl rfl (cell_one_new _ _ _) (fun x hx=>by simp at hx;subst hx;rfl) (by unfold maxLen;omega) (by omega) (by have:=s9;simp;omega) ?_
       intro v12 w12 hrow hgrow _
       have hO12:ze (fun g=>w8.heap.size≤g) w11 w12:=((ze.refl _ w11).alloc _).grown hgrow (fun j hj=>.inl (hblk j hj).1)
       have HOz:Hid (ze (fun _=>False) w w12):=((zb HO5).trans (zb HO11)).later hO12 (fun i hi=>by have e1:=(zb HO5).size;have e2:=(zb HO8).size;omega)
       rcases hrow.2 with ⟨_,hbad⟩ |⟨rb,rc,cur,rfl,_⟩
       ·simp at hbad
       have y0:w12.cell? ⟨rb,0,none⟩=some (.int .i64 1):=hrow.cellAt 0 (by decide)
       have y1:w12.cell? ⟨rb,1,none⟩=some (.int .i64 2):=hrow.cellAt 1 (by decide)
       obtain ⟨b',c',hv0,hv⟩:=zb Hv11
       have hfw:fws (!false) (!decide (f=0) && !false) false=[1,2]:=by simp [fws,h0]
       rw [hfw] at hv0 hv
       obtain ⟨g,hbg,v0,v1⟩:=hv 0 1 rfl
       obtain ⟨g',hbg',v2,v3⟩:=hv 1 2 rfl
       simp at hv0
       obtain ⟨rfl,rfl,rfl⟩:=hv0
       subst hbg
       cases hbg'
       have hgl:g<w8.heap.size:=World.block_lt_of_cell? w8 _ ((zb Hv8c) g rfl)
       have x0:=zg hO12 _ _ v0 (fun e=>by have e2:w8.heap.size≤g:=e;omega)
       have x1:=zg hO12 _ _ v1 (fun e=>by have e2:w8.heap.size≤g:=e;omega)
       have x2:=zg hO12 _ _ v2 (fun e=>by have e2:w8.heap.size≤g:=e;omega)
       have x3:=zg hO12 _ _ v3 (fun e=>by have e2:w8.heap.size≤g:=e;omega)
       clear hv hrow hgrow hO12 v0 v1 v2 v3 hblk HRow11 Hv11 HO11 Hv8c
       go_wp2_with fail
       refine wp_loop_rounds 3 ?_
       rw [rounds_succ]
       go_wp2_with fail
       go_quiet (fail)
       go_wp2_with fail
       rw [rounds_succ]
       go_wp2_with fail
       go_quiet (fail)
       go_wp2_with fail
       rw [rounds_succ]
       go_wp2_with fail
       go_ret
       exact ⟨rfl,by repeat (first |exact zb HOz |refine ze.drewN ?_ _)⟩
      ·have hrow:=zb HRow11
       rcases hrow.2 with ⟨_,hbad⟩ |⟨rb,rc,cur,hsl,_⟩
       ·simp at hbad
       cases hsl
       have y0:w11.cell? ⟨rb,0,none⟩=some (.int .i64 1):=hrow.cellAt 0 (by decide)
       obtain ⟨b',c',hv0,hv⟩:=zb Hv11
       have hfw:fws (!false) (!decide (f=0) && !true) false=[1]:=by simp [fws]
       rw [hfw] at hv0 hv
       obtain ⟨g,hbg,v0,v1⟩:=hv 0 1 rfl
       simp at hv0
       obtain ⟨rfl,rfl,rfl⟩:=hv0
       subst hbg
       clear hv hrow
       go_wp2_with fail
       refine wp_loop_rounds 2 ?_
       rw [rounds_succ]
       go_wp2_with fail
       go_quiet (fail)
       go_wp2_with fail
       rw [rounds_succ]
       go_wp2_with fail
       go_ret
       exact ⟨rfl,ze.drewN ((zb HO5).trans (zb HO11)) _⟩
    ·by_cases h0:f=0
     ·subst h0
      obtain ⟨b',c',hv0,hv⟩:=zb Hv8
      simp [fws] at hv0
      obtain ⟨rfl,rfl,rfl⟩:=hv0
      clear hv HMf HFm
      go_wp2_with fail
      refine wp_loop_rounds 1 ?_
      rw [rounds_succ]
      go_wp2_with fail
      go_ret
      exact ⟨rfl,(zb HO5).trans (zb HO8)⟩
     ·have hpos:decide ((0:Int)<(f:Int))=true:=by simp;omega
      have HFm9:=zc (zb HFm h0 w8)
      go_wp2_with (go_at_call 14;refine (zb HFm9).mono ?_;rintro e w10 ⟨rfl,hO10⟩;refine zb ?_)
      refine zc ?_
      have HO10:=zc ((zb HO8).trans hO10)
      have Hk:=zc hO10
      clear hO10 HFm9 HFm
      go_wp2_with (go_at_call 13;refine (zb HMf w10 (zb HO10)).mono ?_;rintro e w11 ⟨rfl,hO11⟩;refine zb ?_)
      refine zc ?_
      have HO11:=zc ((zb HO5).trans ((zb HO10).trans hO11))
      have Hv11:=zc (((zb Hv8).keep (zb Hk)).keep hO11)
      clear hO11 HMf Hk HO10 Hv8
      obtain ⟨b',c',hv0,hv⟩:=zb Hv11
      cases F
      ·have hfw:fws (!true) (!decide (f=0) && !false) false=[2]:=by simp [fws,h0]
       rw [hfw] at hv0 hv
       obtain ⟨g,hbg,v0,v1⟩:=hv 0 2 rfl
       simp at hv0
       obtain ⟨rfl,rfl,rfl⟩:=hv0
       subst hbg
       have u0:=fun o p=>zg (keep3 o p) _ _ v0 (fun f=>f)
       have u1:=fun o p=>zg (keep3 o p) _ _ v1 (fun f=>f)
       have u2:=zeo w11 2
       clear hv v0 v1
       go_wp2_with fail
       refine wp_loop_rounds 2 ?_
       rw [rounds_succ]
       go_wp2_with fail
       go_quiet (fail)
       go_wp2_with fail
       rw [rounds_succ]
       go_wp2_with fail
       go_ret
       exact ⟨rfl,ze.drewN (ze.trans (zb HO11) (keep3 _ _)) _⟩
      ·have hfw:fws (!true) (!decide (f=0) && !true) false=[]:=by simp [fws]
       rw [hfw] at hv0 hv
       simp at hv0
       obtain ⟨rfl,rfl,rfl⟩:=hv0
       clear hv
       go_wp2_with fail
       refine wp_loop_rounds 1 ?_
       rw [rounds_succ]
       go_wp2_with fail
       go_ret
       exact ⟨rfl,zb HO11⟩
  ·clear hm HMp HMf HFm
   go_wp2_with (go_at_call 12;refine (zb HV (-2) (by decide)).mono ?_;rintro e w6 ⟨b1,b2,b3,b,n,c,rfl,hv,hF,hO6⟩;refine zb ?_)
   refine zc ?_
   obtain ⟨rfl,rfl,rfl⟩:=zb HCal (-2) _ _ _ hF
   obtain ⟨b',c',hv0,hv⟩:=hv
   simp [fws] at hv0
   obtain ⟨rfl,rfl,rfl⟩:=hv0
   have HO6:=zc hO6
   clear hv hF hO6 HV HCal
   go_wp2_with (go_at_call 13;refine (zb HMk w6 (zb HO6)).mono ?_;rintro e w7 ⟨rfl,hO7⟩;have HO7:=zc (((zb HO5).trans (zb HO6)).trans hO7);clear hO7)
   refine wp_loop_rounds 1 ?_
   rw [rounds_succ]
   go_wp2_with fail
   go_ret
   exact ⟨rfl,zb HO7⟩
  ·clear hm HMp HMf HFm
   go_wp2_with (go_at_call 12;refine (zb HV (-1) (by decide)).mono ?_;rintro e w6 ⟨b1,b2,b3,b,n,c,rfl,hv,hF,hO6⟩;refine zb ?_)
   refine zc ?_
   obtain ⟨rfl,rfl,rfl⟩:=zb HCal (-1) _ _ _ hF
   obtain ⟨b',c',hv0,hv⟩:=hv
   obtain ⟨g,hbg,v0,v1⟩:=hv 0 3 (by simp [fws])
   simp [fws] at hv0
   obtain ⟨rfl,rfl,rfl⟩:=hv0
   subst hbg
   have HO6:=zc hO6
   clear hv hF hO6 HV HCal
   go_wp2_with (go_at_call 13;refine (zb HMk w6 (zb HO6)).mono ?_;rintro e w7 ⟨rfl,hO7⟩;refine zb ?_)
   refine zc ?_
   have HO7:=zc (((zb HO5).trans (zb HO6)).trans hO7)
   have u0:=fun o p=>zg (keep3 o p) _ _ (zg hO7 _ _ v0 (fun f=>f)) (fun f=>f)
   have u1:=fun o p=>zg (keep3 o p) _ _ (zg hO7 _ _ v1 (fun f=>f)) (fun f=>f)
   have u2:=zeo w7 3
   clear hO7 v0 v1 HMk
   go_wp2_with fail
   refine wp_loop_rounds 2 ?_
   rw [rounds_succ]
   go_wp2_with fail
   go_quiet (fail)
   go_wp2_with fail
   rw [rounds_succ]
   go_wp2_with fail
   go_ret
   exact ⟨rfl,ze.drewN (ze.trans (zb HO7) (keep3 _ _)) _⟩
 ·have HRet:=zc (zb HO5)
  clear HP1 HP2 HI HJ HB
  cases hk:Kc.textB key with
  |false=>
   generalize Kc.textB text=bt at *
   cases bt<;>cases pv<;>cases qv
   all_goals go_wp2_with fail
   all_goals go_ret
   all_goals exact ⟨rfl,zb HRet⟩
  |true=>
   cases ht:Kc.textB text with
   |false=>
    cases pv<;>cases qv
    all_goals go_wp2_with fail
    all_goals go_ret
    all_goals exact ⟨rfl,zb HRet⟩
   |true=>
    cases pv
    ·cases qv
     all_goals go_wp2_with fail
     all_goals go_ret
     all_goals exact ⟨rfl,zb HRet⟩
    ·cases qv
     ·go_wp2_with fail
      go_ret
      exact ⟨rfl,zb HRet⟩
     ·exact absurd ⟨hk,ht,by simp,by simp⟩ hall
end
end Go.Proofs.YtcgleficedipkaaGreatDoor
