/- The formats' patterns, of the program and of the law. -/
import Derived.Laws.Append
import Derived.Test.YtcgleficedipkaaGreatDoorYKnA
namespace Go.Proofs.YtcgleficedipkaaGreatDoor
section
open Go.RowKit
def fmtS (f:Nat):ByteArray:=match f with
 |1=>⟨#[94,92,100,123,52,125,45,92,100,123,50,125,45,92,100,123,50,125,36]⟩
 |2=>⟨#[94,92,100,123,50,125,58,92,100,123,50,125,40,58,92,100,123,50,125,41,63,36]⟩
 |3=>⟨#[94,91,48,45,57,97,45,102,65,45,70,93,43,36]⟩
 |4=>⟨#[94,40,92,100,123,49,44,51,125,92,46,41,123,51,125,92,100,123,49,44,51,125,36]⟩
 |5=>⟨#[94,91,94,64,92,115,93,43,64,91,94,64,92,115,93,43,36]⟩
 |_=>⟨#[94,92,119,43,40,45,92,119,43,41,42,36]⟩
theorem zet (f:Nat)(h1:1≤f)(h2:f≤6)(w:World):Calls Tryz.prog 98 #[.int .i64 (f:Nat)] w fun x w'=>x = .returned (.string (fmtS f))∧ze (fun _=>False) w w':=by
 have HO:Hid (ze (fun _=>False) w w):=ze.refl _ _
 obtain rfl |rfl |rfl |rfl |rfl |rfl:f=1∨f=2∨f=3∨f=4∨f=5∨f=6:=by omega
 all_goals
  clear h1 h2
  go_enter Tryz.func98,Tryz.ntmps98
  go_wp2_with fail
  go_ret
  exact ⟨rfl,zb HO⟩
theorem zer (f:Nat)(h1:1≤f)(h2:f≤6)(w:World):Calls Tryz.prog 14 #[.int .i64 (f:Nat)] w fun x w'=>x = .returned (.string (fmtS f))∧ze (fun _=>False) w w':=by
 have HO:Hid (ze (fun _=>False) w w):=ze.refl _ _
 obtain rfl |rfl |rfl |rfl |rfl |rfl:f=1∨f=2∨f=3∨f=4∨f=5∨f=6:=by omega
 all_goals
  clear h1 h2
  go_enter Tryz.func14,Tryz.ntmps14
  go_wp2_with fail
  go_ret
  exact ⟨rfl,(zb HO).alloc _⟩
structure DocAt (w:World)(nb:Nat)(key text:ByteArray):Prop where
 c0:w.cell? ⟨nb,0,none⟩=some (.int .i64 5)
 c1:w.cell? ⟨nb,1,none⟩=some (.int .i64 (-1))
 c2:w.cell? ⟨nb,2,none⟩=some (.string ByteArray.empty)
 c3:w.cell? ⟨nb,3,none⟩=some (.string ByteArray.empty)
 c4:w.cell? ⟨nb,4,none⟩=some (.int .i64 3)
 c5:w.cell? ⟨nb,5,none⟩=some (.int .i64 0)
 c6:w.cell? ⟨nb,6,none⟩=some (.string key)
 c7:w.cell? ⟨nb,7,none⟩=some (.string text)
theorem DocAt.keep {P:Nat→Prop}{w w':World}{nb:Nat}{key text:ByteArray}(h:DocAt w nb key text)(k:ze P w w')(hn:¬P nb):DocAt w' nb key text:=
 ⟨zg k _ _ h.c0 hn,zg k _ _ h.c1 hn,zg k _ _ h.c2 hn,zg k _ _ h.c3 hn,zg k _ _ h.c4 hn,zg k _ _ h.c5 hn,zg k _ _ h.c6 hn,zg k _ _ h.c7 hn⟩
theorem zeB (nb cap:Nat)(f:Value)(hf:∃ a b c,f = .func a b c)(w:World):Calls Tryz.prog 87 #[.slice (some ⟨nb,4,none⟩) 0 cap,f] w fun x w'=>x = .returned (.bool false)∧ze (fun _=>False) w w':=by
 have HO:Hid (ze (fun _=>False) w w):=ze.refl _ _
 obtain ⟨fa,fb,fc,rfl⟩:=hf
 have HI:Hid (Calls Tryz.prog 136 #[.slice (some ⟨nb,4,none⟩) 0 cap,.func fa fb fc] w fun x w'=>x = .returned (.int .i64 (-1))∧ze (fun _=>False) w w'):=by
  show Calls _ _ _ _ _
  go_enter Tryz.func136,Tryz.ntmps136
  go_wp2_with fail
  refine wp_loop_rounds 1 ?_
  rw [rounds_succ]
  go_wp2_with fail
  go_ret
  exact ⟨rfl,zb HO⟩
 go_enter Tryz.func87,Tryz.ntmps87
 go_wp2_with (go_at_call 136;refine (zb HI).mono ?_;rintro e w1 ⟨rfl,hO⟩)
 go_ret
 exact ⟨rfl,hO⟩
theorem zeC (nb cap:Nat)(key text:ByteArray)(w:World)(h:DocAt w nb key text):Calls Tryz.prog 46 #[.slice (some ⟨nb,0,none⟩) 2 cap,.int .i64 0] w fun x w'=>x = .returned (.bool true)∧ze (fun _=>False) w w':=by
 have HO:Hid (ze (fun _=>False) w w):=ze.refl _ _
 obtain ⟨c0,c1,c2,c3,c4,c5,c6,c7⟩:=h
 clear c4 c5 c6 c7
 go_enter Tryz.func46,Tryz.ntmps46
 go_wp2_with fail
 go_ret
 exact ⟨rfl,(zb HO).alloc _⟩
theorem zeu (nb cap:Nat)(key text:ByteArray)(w:World)(h:DocAt w nb key text)(hc:2≤cap):Calls Tryz.prog 46 #[.slice (some ⟨nb,0,none⟩) 2 cap,.int .i64 1] w fun x w'=>x = .returned (.bool true)∧ze (fun _=>False) w w':=by
 have HO:Hid (ze (fun _=>False) w w):=ze.refl _ _
 obtain ⟨c0,c1,c2,c3,c4,c5,c6,c7⟩:=h
 have d0:∀ o,(w.alloc o).cell? ⟨nb,0,none⟩=some (.int .i64 5):=fun o=>zg ((zb HO).alloc o) _ _ c0 (fun f=>f)
 clear c0 c1 c2 c3
 by_cases ht:text.toList=[]
 all_goals
  go_enter Tryz.func46,Tryz.ntmps46
  go_wp2_with (go_at_call 87;refine (zeB nb _ _ ⟨_,_,_,rfl⟩ _).mono ?_;rintro e w1 ⟨rfl,hO⟩)
  go_ret
  exact ⟨rfl,((zb HO).alloc _).trans hO⟩
set_option maxHeartbeats 1000000
theorem vq (b1 b2:Nat)(n c o:Int)(w:World)(h1:w.cell? ⟨b1,0,none⟩=some (.int .i64 n))(h2:w.cell? ⟨b2,0,none⟩=some (.int .i64 c))(d1:n<o)(d2:o<c) :
  Calls Tryz.prog 95 #[.int .i64 o,.pointer (some ⟨b1,0,none⟩),.pointer (some ⟨b2,0,none⟩)] w fun x w'=>x = .returned (.bool true)∧w'=w:=by
 go_enter Tryz.func95,Tryz.ntmps95
 go_wp2_with fail
 go_ret
 exact ⟨rfl,rfl⟩
structure Sch0 (w:World)(gb kb ub:Nat)(keys:ByteArray)(more:Int):Prop where
 c0:w.cell? ⟨gb,0,none⟩=some (.bool false)
 c2:w.cell? ⟨gb,2,none⟩=some (.int .i64 0)
 c3:w.cell? ⟨gb,3,none⟩=some (.slice (some ⟨kb,0,none⟩) 1 1)
 c4:w.cell? ⟨gb,4,none⟩=some (.slice (some ⟨ub,0,none⟩) 1 1)
 c5:w.cell? ⟨gb,5,none⟩=some (.int .i64 more)
 k0:w.cell? ⟨kb,0,none⟩=some (.string keys)
 u0:w.cell? ⟨ub,0,none⟩=some (.int .i64 1)
structure Sch1 (w:World)(gb:Nat)(pat:ByteArray)(f:Nat):Prop where
 c6:w.cell? ⟨gb,6,none⟩=some (.bool true)
 c7:w.cell? ⟨gb,7,none⟩=some (.string pat)
 c8:w.cell? ⟨gb,8,none⟩=some (.int .i64 (f:Nat))
 c9:w.cell? ⟨gb,9,none⟩=some (.slice none 0 0)
 c10:w.cell? ⟨gb,10,none⟩=some (.slice none 0 0)
 c11:w.cell? ⟨gb,11,none⟩=some (.int .i64 (-2))
theorem Sch0.keep {w w':World}{gb kb ub:Nat}{keys:ByteArray}{more:Int}(h:Sch0 w gb kb ub keys more)(k:ze (fun _=>False) w w'):Sch0 w' gb kb ub keys more:=
 have c:=fun p v hp=>zg k p v hp (fun f=>f)
 ⟨c _ _ h.c0,c _ _ h.c2,c _ _ h.c3,c _ _ h.c4,c _ _ h.c5,c _ _ h.k0,c _ _ h.u0⟩
theorem Sch1.keep {w w':World}{gb:Nat}{pat:ByteArray}{f:Nat}(h:Sch1 w gb pat f)(k:ze (fun _=>False) w w'):Sch1 w' gb pat f:=
 have c:=fun p v hp=>zg k p v hp (fun f=>f)
 ⟨c _ _ h.c6,c _ _ h.c7,c _ _ h.c8,c _ _ h.c9,c _ _ h.c10,c _ _ h.c11⟩
theorem fit0_any (gb kb ub:Nat)(keys:ByteArray)(more:Int)(w:World)(h:Sch0 w gb kb ub keys more)(hm:more = -2∨more = -1∨more=1) :
  Calls Tryz.prog 50 #[.pointer (some ⟨gb,0,none⟩),.int .i64 0,.int .i64 2] w fun x w'=>x = .returned (.bool true)∧ze (fun _=>False) w w':=by
 have HO:Hid (ze (fun _=>False) w w):=ze.refl _ _
 have k2:∀ o p,ze (fun _=>False) w ((w.alloc o).alloc p):=fun o p=>((zb HO).alloc o).alloc p
 have eg:∀ args w,(callFunc 95 args).run Tryz.prog w = .ok (.enter 95 args) w:=enters_of Tryz.func95 (by kernel_rfl) rfl
 obtain ⟨c0,c2,c3,c4,c5,k0,u0⟩:=h
 have d2:∀ o p,((w.alloc o).alloc p).cell? ⟨gb,2,none⟩=some (.int .i64 0):=fun o p=>zg (k2 o p) _ _ c2 (fun f=>f)
 have d3:∀ o p,((w.alloc o).alloc p).cell? ⟨gb,3,none⟩=some (.slice (some ⟨kb,0,none⟩) 1 1):=fun o p=>zg (k2 o p) _ _ c3 (fun f=>f)
 have d4:∀ o p,((w.alloc o).alloc p).cell? ⟨gb,4,none⟩=some (.slice (some ⟨ub,0,none⟩) 1 1):=fun o p=>zg (k2 o p) _ _ c4 (fun f=>f)
 have d5:∀ o p,((w.alloc o).alloc p).cell? ⟨gb,5,none⟩=some (.int .i64 more):=fun o p=>zg (k2 o p) _ _ c5 (fun f=>f)
 have d6:∀ o p,((w.alloc o).alloc p).cell? ⟨ub,0,none⟩=some (.int .i64 1):=fun o p=>zg (k2 o p) _ _ u0 (fun f=>f)
 clear c0 c2 c3 c4 c5 k0 u0
 have n1:∀ p,((w.alloc (.cells #[.int .i64 0] 3)).alloc p).cell? ⟨w.heap.size,0,none⟩=some (.int .i64 0):=fun p=>zg ((ze.refl (fun _=>False) _).alloc p) _ _ (zm w _ rfl _ _ 0 _ rfl) (fun f=>f)
 have n2:∀ o,((w.alloc o).alloc (.cells #[.int .i64 2] 3)).cell? ⟨w.heap.size+1,0,none⟩=some (.int .i64 2):=fun o=>zm (w.alloc o) _ (by simp) _ _ 0 _ rfl
 rcases hm with rfl |rfl |rfl
 all_goals
  go_enter Tryz.func50,Tryz.ntmps50
  go_wp2_with fail
  go_quiet (fail)
  go_wp2_with fail
  refine wp_loop_rounds 2 ?_
  rw [rounds_succ]
  go_wp2_with (go_at_fn 95;refine (vq _ _ 0 2 1 _ (by simp [n1]) (by simp [n2]) (by decide) (by decide)).mono ?_;rintro e wq ⟨rfl,rfl⟩)
  rw [rounds_succ]
  go_wp2_with (go_at_fn 95;refine (vq _ _ 0 2 1 _ (by simp [n1]) (by simp [n2]) (by decide) (by decide)).mono ?_;rintro e wq ⟨rfl,rfl⟩)
  go_ret
  exact ⟨rfl,(k2 _ _).drewN _⟩
theorem fit1_any (gb:Nat)(pat:ByteArray)(f:Nat)(w:World)(h:Sch1 w gb pat f)(hf:f≤6) :
  Calls Tryz.prog 50 #[.pointer (some ⟨gb,6,none⟩),.int .i64 1,.int .i64 2] w fun x w'=>x = .returned (.bool true)∧ze (fun _=>False) w w':=by
 have HO:Hid (ze (fun _=>False) w w):=ze.refl _ _
 have k2:∀ o p,ze (fun _=>False) w ((w.alloc o).alloc p):=fun o p=>((zb HO).alloc o).alloc p
 obtain ⟨c6,c7,c8,c9,c10,c11⟩:=h
 have d8:∀ o p,((w.alloc o).alloc p).cell? ⟨gb,8,none⟩=some (.int .i64 (f:Nat)):=fun o p=>zg (k2 o p) _ _ c8 (fun f=>f)
 have d9:∀ o p,((w.alloc o).alloc p).cell? ⟨gb,9,none⟩=some (.slice none 0 0):=fun o p=>zg (k2 o p) _ _ c9 (fun f=>f)
 have d10:∀ o p,((w.alloc o).alloc p).cell? ⟨gb,10,none⟩=some (.slice none 0 0):=fun o p=>zg (k2 o p) _ _ c10 (fun f=>f)
 have d11:∀ o p,((w.alloc o).alloc p).cell? ⟨gb,11,none⟩=some (.int .i64 (-2)):=fun o p=>zg (k2 o p) _ _ c11 (fun f=>f)
 have b1:¬(f:Int)<0:=by omega
 have b2:¬(6:Int)<(f:Int):=by omega
 clear c6 c7 c8 c9 c10 c11 hf
 go_enter Tryz.func50,Tryz.ntmps50
 go_wp2_with fail
 go_quiet (fail)
 go_wp2_with fail
 refine wp_loop_rounds 1 ?_
 rw [rounds_succ]
 go_wp2_with fail
 go_ret
 exact ⟨rfl,(k2 _ _).drewN _⟩
set_option maxRecDepth 100000
theorem nil_eqI (x:Option Addr)(l c:Nat)(V:World):(binOp .eql 27 (.slice x l c) (.slice none 0 0)).run Tryz.prog V = .ok (.bool x.isNone) V:=by
 have h:=run_equal_slice_nil (P:=Tryz.prog) V 27 3 x l c Tryz.underlying27
 simp [binOp,h]
theorem zeD (w:World):Calls Tryz.prog 96 #[.slice none 0 0] w fun x w'=>x = .returned (.slice none 0 0)∧w'=w:=by
 have hn:∀ V:World,(binOp .eql 27 (.slice none 0 0) (.slice none 0 0)).run Tryz.prog V = .ok (.bool true) V:=nil_eqI none 0 0
 go_enter Tryz.func96,Tryz.ntmps96
 go_wp2_with fail
 go_ret
 exact ⟨rfl,rfl⟩
theorem zeE (ub cap:Nat)(v:Int)(w:World)(h:w.cell? ⟨ub,0,none⟩=some (.int .i64 v)):Calls Tryz.prog 96 #[.slice (some ⟨ub,0,none⟩) 1 cap] w fun x w'=>∃ g c,x = .returned (.slice (some ⟨g,0,none⟩) 1 c)∧w.heap.size≤g∧g<w'.heap.size∧w'.cell? ⟨g,0,none⟩=some (.int .i64 v)∧ze (fun _=>False) w w':=by
 have hn:∀ V:World,(binOp .eql 27 (.slice (some ⟨ub,0,none⟩) 1 cap) (.slice none 0 0)).run Tryz.prog V = .ok (.bool false) V:=nil_eqI (some ⟨ub,0,none⟩) 1 cap
 have h1:(w.alloc (.cells #[] 3)).cell? ⟨ub,0,none⟩=some (.int .i64 v):=zg ((ze.refl (fun _=>False) w).alloc _) _ _ h (fun f=>f)
 clear h
 go_enter Tryz.func96,Tryz.ntmps96
 go_wp2_with fail
 go_ret
 have kA:=(((ze.refl (fun _=>False) w).alloc (.cells #[] 3)).drew)
 refine ⟨_,_,rfl,by omega,by simp,?_,kA.alloc _⟩
 refine zm _ _ (by simp) _ _ 0 _ ?_
 rw [Array.getElem?_append_left (by simp)]
 rfl
def LetNew (w:World)(base:Nat)(v:Value)(s:ByteArray):Prop:=jQ w v (Pro.letM s (s.size+1) 0)∧∀ g,v.ownBlock=some g→base≤g∧g<w.heap.size
theorem LetNew.keep {P:Nat→Prop}{w w':World}{base:Nat}{v:Value}{s:ByteArray}(h:LetNew w base v s)(k:ze P w w')(hn:∀ g,base≤g→¬P g):LetNew w' base v s:=by
 refine ⟨?_,fun g hg=>⟨(h.2 g hg).1,Nat.lt_of_lt_of_le (h.2 g hg).2 k.size⟩⟩
 rcases h.1 with h1 |⟨g,cap,h1,h2,h3⟩
 ·exact .inl h1
 ·exact .inr ⟨g,cap,h1,h2,h3.keep k (hn g (h.2 g (by rw [h1];rfl)).1)⟩
theorem LetNew.base {w:World}{b c:Nat}{v:Value}{s:ByteArray}(h:LetNew w b v s)(hc:c≤b):LetNew w c v s:=⟨h.1,fun g hg=>⟨Nat.le_trans hc (h.2 g hg).1,(h.2 g hg).2⟩⟩
theorem vp (s:ByteArray)(w:World)(a:Nat→Addr)(hS:zW w a)(hw:11≤w.heap.size)(hs:s.size≤400)(hc:(Ref.zo s).2<0) :
  Calls Tryz.prog 39 #[.string s,.int .i64 400] w fun x w'=>∃ b n c,x = .returned (.tuple #[.slice b n c,.nilIface])∧LetNew w' w.heap.size (.slice b n c) s∧ze (fun _=>False) w w':=by
 refine (qR s 400 (by omega) hs w a hS hw hc).mono ?_
 rintro e w1 ⟨v,rfl,hv,hO1⟩
 obtain ⟨b,n,c,rfl⟩:=zy hv
 refine ⟨b,n,c,rfl,⟨?_,fun g hg=>⟨by have:=(zh hv g hg).1;omega,(zh hv g hg).2⟩⟩,hO1⟩
 rcases Z6 hv with ⟨h1,h2⟩ |⟨gl,cap,h1,h2,_,h3⟩
 ·exact .inl ⟨h1,h2⟩
 ·exact .inr ⟨gl,cap,h1,h2,h3⟩
theorem zen (tb o:Nat)(k p:Int)(key text:ByteArray)(z0 z1 z2:Value)(w:World)(a:Nat→Addr)(hS:zW w a)(hw:11≤w.heap.size)(k1:key.size≤400)(k2:(Ref.zo key).2<0)(t1:text.size≤400)(t2:(Ref.zo text).2<0)
  (c0:w.cell? ⟨tb,o,none⟩=some z0) (c1:w.cell? ⟨tb,o+1,none⟩=some z1) (c2:w.cell? ⟨tb,o+2,none⟩=some z2) (fz:∀ j,w.frozen? ⟨tb,j,none⟩=false) :
  Calls Tryz.prog 47 #[.pointer (some ⟨tb,o,none⟩),.agg #[.int .i64 k,.int .i64 p,.string key,.string text]] w fun x w'=>∃ kv tv w1,x = .returned (.bool true)∧w'=((w1.setCell ⟨tb,o,none⟩ (.int .i64 k)).setCell ⟨tb,o+1,none⟩ kv).setCell ⟨tb,o+2,none⟩ tv∧LetNew w1 w.heap.size kv key∧LetNew w1 w.heap.size tv text∧ze (fun _=>False) w w1:=by
 have HS:=zc hS
 have htl:tb<w.heap.size:=World.block_lt_of_cell? w _ c0
 have kA:=(ze.refl (fun _=>False) w).alloc (.cells #[.int .i64 k,.int .i64 p,.string key,.string text] 41)
 have hz:(w.alloc (.cells #[.int .i64 k,.int .i64 p,.string key,.string text] 41)).heap.size=w.heap.size+1:=by simp
 have HL1:=zc (vp key _ a (hS.keep kA (fun _ _ f=>f)) (by omega) k1 k2)
 go_enter Tryz.func47,Tryz.ntmps47
 go_wp2_with (go_at_call 39;refine (zb HL1).mono ?_;rintro e w1 ⟨b1,n1,e1,rfl,hv1,hO1⟩;refine zb ?_)
 refine zc ?_
 have hO:=kA.trans hO1
 have hs1:=hO1.size
 have HV1:=zc hv1
 have p0:=zg hO1 _ _ (zm w _ rfl _ _ 0 _ rfl) (fun f=>f)
 have p3:=zg hO1 _ _ (zm w _ rfl _ _ 3 _ rfl) (fun f=>f)
 have HL2:=zc (vp text w1 a ((zb HS).keep hO (fun _ _ f=>f)) (by omega) t1 t2)
 have HO1:=zc hO
 clear hO1 hv1 HL1 kA
 go_wp2_with (go_at_call 39;refine (zb HL2).mono ?_;rintro e w2 ⟨b2,n2,e2,rfl,hv2,hO2⟩;refine zb ?_)
 refine zc ?_
 have hO:=(zb HO1).trans hO2
 have q0:=zg hO2 _ _ p0 (fun f=>f)
 have d0:=zg hO _ _ c0 (fun f=>f)
 have d1:=zg hO _ _ c1 (fun f=>f)
 have d2:=zg hO _ _ c2 (fun f=>f)
 have g0:∀ j,w2.frozen? ⟨tb,j,none⟩=false:=fun j=>(hO.frozen (p:=⟨tb,j,none⟩) htl (fun f=>f)).trans (fz j)
 have HO2:=zc hO
 have HV2:=zc hv2
 have HV3:=zc ((zb HV1).keep hO2 (fun _ _ f=>f))
 clear hO hO2 hv2 HL2 HV1 HO1 p0 p3 c0 c1 c2 fz HS
 go_wp2_with fail
 go_ret
 exact ⟨_,_,w2,rfl,rfl,(zb HV3).base (by omega),(zb HV2).base (by omega),zb HO2⟩
set_option maxHeartbeats 2000000
structure TreeAt (w:World)(base tb cb cc:Nat)(kv tv:Value)(key text:ByteArray):Prop where
 c0:w.cell? ⟨tb,0,none⟩=some (.int .i64 5)
 c3:w.cell? ⟨tb,3,none⟩=some (.slice (some ⟨cb,0,none⟩) 1 cc)
 c4:w.cell? ⟨tb,4,none⟩=some (.int .i64 3)
 c5:w.cell? ⟨tb,5,none⟩=some kv
 c6:w.cell? ⟨tb,6,none⟩=some tv
 k0:w.cell? ⟨cb,0,none⟩=some (.int .i64 1)
 kl:LetNew w base kv key
 tl:LetNew w base tv text
 bt:base≤tb
 bc:base≤cb
theorem Tryz.infoNode:(Tryz.prog.info? 118).map (fun i=>(i.zero,i.size,i.bytes))=some (some (.agg #[.int .i64 0,.slice none 0 0,.slice none 0 0,.slice none 0 0]),4,80):=by kernel_rfl
theorem zev (w:World):(Instr.makeSlice 82 (.int .i64 2) (.int .i64 2)).run Tryz.prog w = .ok (.slice (some ⟨w.heap.size,0,none⟩) 2 2) (w.alloc (.cells #[.int .i64 0,.slice none 0 0,.slice none 0 0,.slice none 0 0,.int .i64 0,.slice none 0 0,.slice none 0 0,.slice none 0 0] 118)):=by
 obtain ⟨i,hi,hzz⟩:=Option.map_eq_some_iff.1 Tryz.infoNode
 simp only [Prod.mk.injEq] at hzz
 obtain ⟨hz,hs,hb⟩:=hzz
 have h:=run_make (P:=Tryz.prog) w 82 118 i _ Tryz.underlying82 hi hz .i64 .i64 2 2 (by decide) (by decide) (by rw [hb];decide) (by decide)
 rw [hs,show madeCells _ (Int.toNat 2*4)=#[.int .i64 0,.slice none 0 0,.slice none 0 0,.slice none 0 0,.int .i64 0,.slice none 0 0,.slice none 0 0,.slice none 0 0] by kernel_rfl] at h
 exact h
theorem em_chars:(Ref.zo ByteArray.empty).2<0:=by decide +kernel
theorem set3 {w0 w2 w3:World}{T o:Nat}{x y z v0 v1 v2:Value}(h:w3=((w2.setCell ⟨T,o,none⟩ x).setCell ⟨T,o+1,none⟩ y).setCell ⟨T,o+2,none⟩ z)(k:ze (fun _=>False) w0 w2)(h0:w0.cell? ⟨T,o,none⟩=some v0)(h1:w0.cell? ⟨T,o+1,none⟩=some v1)(h2:w0.cell? ⟨T,o+2,none⟩=some v2)(fz:∀ j,w0.frozen? ⟨T,j,none⟩=false) :
  w3.cell? ⟨T,o,none⟩=some x∧w3.cell? ⟨T,o+1,none⟩=some y∧w3.cell? ⟨T,o+2,none⟩=some z∧(∀ j v,j≠o→j≠o+1→j≠o+2→w0.cell? ⟨T,j,none⟩=some v→w3.cell? ⟨T,j,none⟩=some v)∧(∀ j,w3.frozen? ⟨T,j,none⟩=false)∧ze (zt T) w0 w3:=by
 subst h
 have hl:T<w0.heap.size:=World.block_lt_of_cell? w0 _ h0
 have a0:=zg k _ _ h0 (fun f=>f)
 have a1:=zg k _ _ h1 (fun f=>f)
 have a2:=zg k _ _ h2 (fun f=>f)
 have s:∀ (V:World) (i j:Nat) (u:Value),i≠j→(V.setCell ⟨T,j,none⟩ u).cell? ⟨T,i,none⟩=V.cell? ⟨T,i,none⟩:=fun V i j u e=>World.cell?_setCell_other _ _ _ _ (by simp)
 refine ⟨?_,?_,?_,fun j v q0 q1 q2 hj=>?_,fun j=>?_,((((k.mono (fun _ _ f=>f.elim)).mine o x).mine (o+1) y).mine (o+2) z)⟩
 ·rw [s _ _ _ _ (by omega),s _ _ _ _ (by omega)]
  exact World.cell?_setCell_same _ _ _ a0
 ·rw [s _ _ _ _ (by omega)]
  exact World.cell?_setCell_same _ _ _ ((s _ _ _ _ (by omega)).trans a1)
 ·exact World.cell?_setCell_same _ _ _ (((s _ _ _ _ (by omega)).trans (s _ _ _ _ (by omega))).trans a2)
 ·rw [s _ _ _ _ q2,s _ _ _ _ q1,s _ _ _ _ q0]
  exact zg k _ _ hj (fun f=>f)
 ·rw [zk,zk,zk]
  exact zP k _ hl (fz j) (fun f=>f)
theorem doc_set {w0 w2 w3:World}{T o nb:Nat}{x y z:Value}{key text:ByteArray}(h:w3=((w2.setCell ⟨T,o,none⟩ x).setCell ⟨T,o+1,none⟩ y).setCell ⟨T,o+2,none⟩ z)(k:ze (fun _=>False) w0 w2)(hD:DocAt w0 nb key text)(hn:nb≠T) :
  w3.cell? ⟨nb,0,none⟩=some (.int .i64 5)∧w3.cell? ⟨nb,1,none⟩=some (.int .i64 (-1))∧w3.cell? ⟨nb,2,none⟩=some (.string ByteArray.empty)∧w3.cell? ⟨nb,3,none⟩=some (.string ByteArray.empty):=by
 subst h
 have hD2:=(hD.keep k (fun f=>f)).keep ((((ze.refl (zt T) w2).mine o x).mine (o+1) y).mine (o+2) z) hn
 exact ⟨hD2.c0,hD2.c1,hD2.c2,hD2.c3⟩
theorem doc_set2 {w0 w2 w3:World}{T o nb:Nat}{x y z:Value}{key text:ByteArray}(h:w3=((w2.setCell ⟨T,o,none⟩ x).setCell ⟨T,o+1,none⟩ y).setCell ⟨T,o+2,none⟩ z)(k:ze (fun _=>False) w0 w2)(hD:DocAt w0 nb key text)(hn:nb≠T) :
  w3.cell? ⟨nb,4,none⟩=some (.int .i64 3)∧w3.cell? ⟨nb,5,none⟩=some (.int .i64 0)∧w3.cell? ⟨nb,6,none⟩=some (.string key)∧w3.cell? ⟨nb,7,none⟩=some (.string text):=by
 subst h
 have hD2:=(hD.keep k (fun f=>f)).keep ((((ze.refl (zt T) w2).mine o x).mine (o+1) y).mine (o+2) z) hn
 exact ⟨hD2.c4,hD2.c5,hD2.c6,hD2.c7⟩
theorem zeF (nb cap:Nat)(key text:ByteArray)(w:World)(a:Nat→Addr)(hS:zW w a)(hw:11≤w.heap.size)(hD:DocAt w nb key text)(hcap:2≤cap)(k1:key.size≤400)(k2:(Ref.zo key).2<0)(t1:text.size≤400)(t2:(Ref.zo text).2<0) :
  Calls Tryz.prog 24 #[.slice (some ⟨nb,0,none⟩) 2 cap] w fun x w'=>∃ tb cb cc kv tv,x = .returned (.tuple #[.slice (some ⟨tb,0,none⟩) 2 2,.nilIface])∧TreeAt w' w.heap.size tb cb cc kv tv key text∧ze (fun _=>False) w w':=by
 have HS:=zc hS
 have HD:=zc hD
 have hnb:nb≠w.heap.size:=by have:=World.block_lt_of_cell? w _ hD.c0;show nb≠_;simp at this;omega
 have HM:=zc zev
 clear hS hD
 have hm:=zb HM
 go_enter Tryz.func24,Tryz.ntmps24
 go_wp2_with fail
 have hO0:ze (fun _=>False) w (w.alloc (.cells #[.int .i64 0,.slice none 0 0,.slice none 0 0,.slice none 0 0,.int .i64 0,.slice none 0 0,.slice none 0 0,.slice none 0 0] 118)):=(ze.refl _ _).alloc _
 have hz0:(w.alloc (.cells #[.int .i64 0,.slice none 0 0,.slice none 0 0,.slice none 0 0,.int .i64 0,.slice none 0 0,.slice none 0 0,.slice none 0 0] 118)).heap.size=w.heap.size+1:=by simp
 have z0:=zm w _ rfl #[.int .i64 0,.slice none 0 0,.slice none 0 0,.slice none 0 0,.int .i64 0,.slice none 0 0,.slice none 0 0,.slice none 0 0] 118 0 _ rfl
 have z1:=zm w _ rfl #[.int .i64 0,.slice none 0 0,.slice none 0 0,.slice none 0 0,.int .i64 0,.slice none 0 0,.slice none 0 0,.slice none 0 0] 118 1 _ rfl
 have z2:=zm w _ rfl #[.int .i64 0,.slice none 0 0,.slice none 0 0,.slice none 0 0,.int .i64 0,.slice none 0 0,.slice none 0 0,.slice none 0 0] 118 2 _ rfl
 have z3:=zm w _ rfl #[.int .i64 0,.slice none 0 0,.slice none 0 0,.slice none 0 0,.int .i64 0,.slice none 0 0,.slice none 0 0,.slice none 0 0] 118 3 _ rfl
 have z4:=zm w _ rfl #[.int .i64 0,.slice none 0 0,.slice none 0 0,.slice none 0 0,.int .i64 0,.slice none 0 0,.slice none 0 0,.slice none 0 0] 118 4 _ rfl
 have z5:=zm w _ rfl #[.int .i64 0,.slice none 0 0,.slice none 0 0,.slice none 0 0,.int .i64 0,.slice none 0 0,.slice none 0 0,.slice none 0 0] 118 5 _ rfl
 have z6:=zm w _ rfl #[.int .i64 0,.slice none 0 0,.slice none 0 0,.slice none 0 0,.int .i64 0,.slice none 0 0,.slice none 0 0,.slice none 0 0] 118 6 _ rfl
 have fz:∀ j,(w.alloc (.cells #[.int .i64 0,.slice none 0 0,.slice none 0 0,.slice none 0 0,.int .i64 0,.slice none 0 0,.slice none 0 0,.slice none 0 0] 118)).frozen? ⟨w.heap.size,j,none⟩=false:=fun j=>zG w _ rfl _ _ j
 generalize w.alloc (.cells #[.int .i64 0,.slice none 0 0,.slice none 0 0,.slice none 0 0,.int .i64 0,.slice none 0 0,.slice none 0 0,.slice none 0 0] 118)=w0 at *
 have HD0:=zc ((zb HD).keep hO0 (fun f=>f))
 have HF0:Hid (∀ V,ze (fun _=>False) w0 V→_):=fun V hV=>zeC nb cap key text V ((zb HD0).keep hV (fun f=>f))
 have HR:Hid (∀ V,ze (fun _=>False) w0 V→_):=fun V hV=>zen w.heap.size 0 5 (-1) ByteArray.empty ByteArray.empty _ _ _ V a (((zb HS).keep hO0 (fun _ _ f=>f)).keep hV (fun _ _ f=>f)) (by have:=hV.size;omega) (by decide) em_chars (by decide) em_chars (zg hV _ _ z0 (fun f=>f)) (zg hV _ _ z1 (fun f=>f)) (zg hV _ _ z2 (fun f=>f)) (fun j=>(hV.frozen (p:=⟨w.heap.size,j,none⟩) (by show w.heap.size<_;omega) (fun f=>f)).trans (fz j))
 obtain ⟨d0,d1,d2,d3,-,-,-,-⟩:=zb HD0
 have HF:=zc fz
 have HO0:=zc hO0
 clear fz hO0 HM hm
 refine wp_loop_rounds 3 ?_
 rw [rounds_succ]
 go_wp2_with fail
 go_region_held3 (fun w'=>w'.cell? ⟨nb,0,none⟩=some (.int .i64 5)∧w'.cell? ⟨nb,1,none⟩=some (.int .i64 (-1))∧w'.cell? ⟨nb,2,none⟩=some (.string ByteArray.empty)∧w'.cell? ⟨nb,3,none⟩=some (.string ByteArray.empty)) (first |go_keep |exact ⟨d0,d1,d2,d3⟩ |exact zb HC3) (first
  |(go_at_call 46;refine (zb HF0 _ (by repeat (first |exact ze.refl _ _ |refine ze.alloc ?_ _ |refine ze.drew ?_ |refine ze.drewN ?_ _))).mono ?_;rintro e w1 ⟨rfl,hO1⟩;have HO1:Hid (ze (fun _=>False) w0 w1):=ze.trans (by repeat (first |exact ze.refl _ _ |refine ze.alloc ?_ _ |refine ze.drew ?_ |refine ze.drewN ?_ _)) hO1;obtain ⟨d0,d1,d2,d3,-,-,-,-⟩:=(zb HD0).keep (zb HO1) (fun f=>f);clear hO1)
  |(go_at_call 47;refine (zb HR _ (ze.trans (zb HO1) (by repeat (first |exact ze.refl _ _ |refine ze.alloc ?_ _ |refine ze.drew ?_ |refine ze.drewN ?_ _)))).mono ?_;rintro e w3 ⟨kv,tv,w2,rfl,hw3,-,-,hO2⟩;have HO2:Hid (ze (fun _=>False) w0 w2):=ze.trans (ze.trans (zb HO1) (by repeat (first |exact ze.refl _ _ |refine ze.alloc ?_ _ |refine ze.drew ?_ |refine ze.drewN ?_ _))) hO2;have HW3:=zc hw3;have HC3:=zc (doc_set hw3 (ze.trans (ze.trans (zb HO1) (by repeat (first |exact ze.refl _ _ |refine ze.alloc ?_ _ |refine ze.drew ?_ |refine ze.drewN ?_ _))) hO2) (zb HD0) hnb);clear hO2 hw3))
 obtain ⟨y0,-,-,yo,fy,hO3⟩:=set3 (zb HW3) (zb HO2) z0 z1 z2 (zb HF)
 have y3:=yo 3 _ (by decide) (by decide) (by decide) z3
 have y4:=yo 4 _ (by decide) (by decide) (by decide) z4
 have y5:=yo 5 _ (by decide) (by decide) (by decide) z5
 have y6:=yo 6 _ (by decide) (by decide) (by decide) z6
 have s3:=hO3.size
 have HOa:Hid (ze (fun _=>False) w w3):=(zb HO0).later hO3 (fun i hi=>by unfold zt at hi;omega)
 have HD3:=zc ((zb HD0).keep hO3 hnb)
 have HF3:Hid (∀ V,ze (fun _=>False) w3 V→_):=fun V hV=>zeu nb cap key text V ((zb HD3).keep hV (fun f=>f)) hcap
 have HR3:Hid (∀ V,ze (fun _=>False) w3 V→_):=fun V hV=>zen w.heap.size 4 3 0 key text _ _ _ V a (((zb HS).keep (zb HOa) (fun _ _ f=>f)).keep hV (fun _ _ f=>f)) (by have:=hV.size;omega) k1 k2 t1 t2 (zg hV _ _ y4 (fun f=>f)) (zg hV _ _ y5 (fun f=>f)) (zg hV _ _ y6 (fun f=>f)) (fun j=>(hV.frozen (p:=⟨w.heap.size,j,none⟩) (by show w.heap.size<_;omega) (fun f=>f)).trans (fy j))
 have HFy:=zc fy
 clear hO3 fy yo z0 z1 z2 z3 z4 z5 z6 d0 d1 d2 d3 HF0 HR HF HO2 HW3 HC3 HD0 HO1
 clear HO0
 obtain ⟨-,-,-,-,d4,d5,d6,d7⟩:=zb HD3
 go_wp2_with fail
 rw [rounds_succ]
 go_wp2_with fail
 go_region_held3 (fun w'=>w'.cell? ⟨nb,4,none⟩=some (.int .i64 3)∧w'.cell? ⟨nb,5,none⟩=some (.int .i64 0)∧w'.cell? ⟨nb,6,none⟩=some (.string key)∧w'.cell? ⟨nb,7,none⟩=some (.string text)) (first |go_keep |exact ⟨d4,d5,d6,d7⟩ |exact zb HC5) (first
  |(go_at_call 46;refine (zb HF3 _ (by repeat (first |exact ze.refl _ _ |refine ze.alloc ?_ _ |refine ze.drew ?_ |refine ze.drewN ?_ _))).mono ?_;rintro e w1 ⟨rfl,hO1⟩;have HO1:Hid (ze (fun _=>False) w3 w1):=ze.trans (by repeat (first |exact ze.refl _ _ |refine ze.alloc ?_ _ |refine ze.drew ?_ |refine ze.drewN ?_ _)) hO1;obtain ⟨-,-,-,-,d4,d5,d6,d7⟩:=(zb HD3).keep (zb HO1) (fun f=>f);clear hO1)
  |(go_at_call 47;refine (zb HR3 _ (ze.trans (zb HO1) (by repeat (first |exact ze.refl _ _ |refine ze.alloc ?_ _ |refine ze.drew ?_ |refine ze.drewN ?_ _)))).mono ?_;rintro e w5 ⟨kv5,tv5,w4,rfl,hw5,hkv,htv,hO4⟩;have HO4:Hid (ze (fun _=>False) w3 w4):=ze.trans (ze.trans (zb HO1) (by repeat (first |exact ze.refl _ _ |refine ze.alloc ?_ _ |refine ze.drew ?_ |refine ze.drewN ?_ _))) hO4;have HW5:=zc hw5;have HKV:=zc hkv;have HTV:=zc htv;have HC5:=zc (doc_set2 hw5 (zb HO4) (zb HD3) hnb);clear hO4 hw5 hkv htv))
 obtain ⟨x4,x5,x6,xo,fx,hO5⟩:=set3 (zb HW5) (zb HO4) y4 y5 y6 (zb HFy)
 have x0:=xo 0 _ (by decide) (by decide) (by decide) y0
 have x3:=xo 3 _ (by decide) (by decide) (by decide) y3
 have hn5:w5.cell? ⟨nb,5,none⟩=some (.int .i64 0):=(zb HC5).2.1
 have s5:=hO5.size
 have HOb:Hid (ze (fun _=>False) w w5):=(zb HOa).later hO5 (fun i hi=>by unfold zt at hi;omega)
 have HKV5:Hid (LetNew w5 (w.heap.size+1) kv5 key):=by
  have h:=((zb HKV).base (c:=w.heap.size+1) (by have:=(zb HO1).size;omega))
  rw [zb HW5]
  exact h.keep ((((ze.refl (zt w.heap.size) w4).mine _ _).mine _ _).mine _ _) (fun g hg e=>by unfold zt at e;omega)
 have HTV5:Hid (LetNew w5 (w.heap.size+1) tv5 text):=by
  have h:=((zb HTV).base (c:=w.heap.size+1) (by have:=(zb HO1).size;omega))
  rw [zb HW5]
  exact h.keep ((((ze.refl (zt w.heap.size) w4).mine _ _).mine _ _).mine _ _) (fun g hg e=>by unfold zt at e;omega)
 have hT5:w.heap.size<w5.heap.size:=by omega
 have kap:∀ o p,ze (fun _=>False) w5 ((w5.alloc o).alloc p):=fun o p=>((ze.refl (fun _=>False) w5).alloc o).alloc p
 have x3a:∀ o p,((w5.alloc o).alloc p).cell? ⟨w.heap.size,3,none⟩=some (.slice none 0 0):=fun o p=>zg (kap o p) _ _ x3 (fun f=>f)
 have f3a:∀ o p,((w5.alloc o).alloc p).frozen? ⟨w.heap.size,3,none⟩=false:=fun o p=>zP (kap o p) _ hT5 (fx 3) (fun f=>f)
 clear xo fx hO5 y0 y3 y4 y5 y6 d4 d5 d6 d7 HC5 HW5 HO4 HKV HTV HO1 HF3 HR3 HFy HD3 HOa
 have HX:=zc (And.intro x0 (And.intro x4 (And.intro x5 x6)))
 clear x0 x4 x5 x6
 go_wp2_with fail
 rw [rounds_succ]
 go_wp2_with fail
 go_ret2
 obtain ⟨x0,x4,x5,x6⟩:=zb HX
 have kS:∀ u,ze (zt w.heap.size) w5 (w5.setCell ⟨w.heap.size,3,none⟩ u):=fun u=>(ze.refl _ _).mine 3 u
 have kF:∀ (V:World) o p,ze (fun _=>False) V ((V.alloc o).alloc p).drew:=fun V o p=>(((ze.refl _ V).alloc o).alloc p).drew
 have q:∀ u o p j v,j≠3→w5.cell? ⟨w.heap.size,j,none⟩=some v→(((w5.setCell ⟨w.heap.size,3,none⟩ u).alloc o).alloc p).drew.cell? ⟨w.heap.size,j,none⟩=some v:=fun u o p j v hj h=>zg (kF _ o p) _ _ ((World.cell?_setCell_other _ _ _ _ (by simp)).trans h) (fun f=>f)
 refine ⟨w.heap.size,w5.heap.size+1,_,kv5,tv5,rfl,⟨q _ _ _ 0 _ (by decide) x0,zg (kF _ _ _) _ _ (World.cell?_setCell_same _ _ _ x3) (fun f=>f),q _ _ _ 4 _ (by decide) x4,q _ _ _ 5 _ (by decide) x5,q _ _ _ 6 _ (by decide) x6,?_,?_,?_,by omega,by omega⟩,?_⟩
 ·refine zg ((ze.refl (fun _=>False) _).drew) _ _ (zm (((w5.setCell ⟨w.heap.size,3,none⟩ _).alloc _)) _ (by simp) _ _ 0 _ ?_) (fun f=>f)
  rw [Array.getElem?_append_left (by simp)]
  rfl
 ·exact ((((zb HKV5).keep (kS _) (fun g hg e=>by unfold zt at e;omega)).keep (kF _ _ _) (fun _ _ f=>f))).base (by omega)
 ·exact ((((zb HTV5).keep (kS _) (fun g hg e=>by unfold zt at e;omega)).keep (kF _ _ _) (fun _ _ f=>f))).base (by omega)
 ·exact ((zb HOb).later (kS _) (fun i hi=>by unfold zt at hi;omega)).trans (kF _ _ _)
open Sm (Stp Tree capT)
set_option maxRecDepth 1000000
def Ready (w:World)(R:Nat→Prop)(sb:Nat)(p:ByteArray):Prop:=
 qD p∧∃ (A O D:Nat→Prop) (pb mb F:Nat) (W:Int→Bool) (cs:List Int) (es:List Ent) (sv:Value),Sto w O D sb pb mb 64 (Sm.prg F (Pro.zE p)).2 (xA (Sm.prg F (Pro.zE p)).2 (Sm.prg F (Pro.zE p)).1 W cs) es sv∧Env w A O pb (Sm.prg F (Pro.zE p)).2 (Sm.prg F (Pro.zE p)).1 W cs∧es.length≤64∧Sm.WF F (Pro.zE p)∧Prg.Asks (Sm.prg F (Pro.zE p)).2 W∧∀ g,A g∨O g∨D g→R g
theorem Ready.keep {P R:Nat→Prop}{w w':World}{sb:Nat}{p:ByteArray}(h:Ready w R sb p)(k:ze P w w')(hn:∀ g,R g→¬P g)(ht:¬P 11):Ready w' R sb p:=by
 obtain ⟨hI,A,O,D,pb,mb,F,W,cs,es,sv,h1,h2,h3,h4,h5,h6⟩:=h
 exact ⟨hI,A,O,D,pb,mb,F,W,cs,es,sv,h1.keep k (fun g hg=>hn g (h6 g (.inr (.inl hg)))) (fun g hg=>hn g (h6 g (.inr (.inr hg)))),⟨h2.prog.keep k (fun g hg=>hn g (h6 g (.inl hg))),h2.tab.keep k ht,h2.ao,h2.ot,fun g hg=>Nat.lt_of_lt_of_le (h2.alt g hg) k.size⟩,h3,h4,h5,h6⟩
theorem Ready.young {R:Nat→Prop}{w w':World}{sb:Nat}{p:ByteArray}(h:Ready w R sb p)(k:ze (fun _=>False) w w'):Ready w' R sb p:=h.keep k (fun _ _ f=>f) (fun f=>f)
def FindR (w w':World)(R:Nat→Prop)(sb:Nat)(p s:ByteArray)(x:Ending):Prop:=∃ b:Bool,x = .returned (.bool b)∧(b=true↔Hits p s)∧Ready w' (fun g=>(R g∨w.heap.size≤g)∧g<w'.heap.size) sb p∧∃ O:Nat→Prop,(∀ g,O g→R g∧g≠11)∧ze O w w'
theorem jv (sb:Nat)(p s:ByteArray)(R:Nat→Prop)(tv:Value)(w:World)(h:Ready w R sb p)(hs:Kc.textB s=true)(hL:jQ w tv (Pro.letM s (s.size+1) 0))(hLo:∀ g,tv.ownBlock=some g→¬R g∧g<w.heap.size) :
  Calls Tryz.prog 40 #[.pointer (some ⟨sb,0,none⟩),tv,.slice none 0 0] w fun x w'=>FindR w w' R sb p s x:=by
 obtain ⟨hI,A,O,D,pb,mb,F,W,cs,es,sv,h1,h2,h3,h4,h5,h6⟩:=h
 have hlen:=(Prg.yj.of s).len
 have hl:(Pro.letM s (s.size+1) 0).length≤400:=by
  have e1:=Ref.xh s
  have e2:s.size≤400:=by unfold Kc.textB at hs;simp at hs;omega
  omega
 refine (zcm sb pb mb 64 _ A O D _ W cs es sv tv (.slice none 0 0) _ [] w h2 h1 (by decide) (by decide) h3 hL (fun g hg=>⟨fun q=>(hLo g hg).1 (h6 g (.inr (.inl q))),(hLo g hg).2⟩) hl (.inl ⟨rfl,none,0,rfl⟩) (by simp)).mono ?_
 rintro x w' ⟨r,i,O',D',es',sv',rfl,hr,hS⟩
 refine ⟨r,rfl,?_,⟨hI,A,O',D',pb,mb,F,W,cs,es',sv',hS.sto,hS.env,hS.len,h4,h5,fun g hg=>?_⟩,O,fun g hg=>⟨h6 g (.inr (.inl hg)),h2.ot g hg⟩,hS.only⟩
 ·rw [hr,Fnd.found_iff h2.prog.at'.stl h2.prog.at'.fit]
  constructor
  ·rintro ⟨i,j,hi,hj,hg⟩
   exact ⟨hI,hs,i,j,by omega,by omega,(Kk s h4 h5 hi).1 hg⟩
  ·rintro ⟨_,_,i,j,hi,hj,hg⟩
   exact ⟨i,j,by omega,by omega,(Kk s h4 h5 (by omega)).2 hg⟩
 ·rcases hg with hg |hg |hg
  ·exact ⟨.inl (h6 g (.inl hg)),hS.env.alt g hg⟩
  ·exact ⟨(hS.oo g hg).imp_left (fun q=>h6 g (.inr (.inl q))),hS.sto.olt g hg⟩
  ·exact ⟨(hS.dd g hg).imp_left (fun q=>h6 g (.inr (.inr q))),hS.sto.dlt g hg⟩
theorem za (p:ByteArray)(w:World)(a:Nat→Addr)(hS:Start w a)(hT:TabAt w)(hI:qD p) :
  Calls Tryz.prog 97 #[.string p] w fun x w'=>∃ sb,x = .returned (.tuple #[.pointer (some ⟨sb,0,none⟩),.nilIface])∧Ready w' (fun g=>w.heap.size≤g∧g<w'.heap.size) sb p∧ze (fun _=>False) w w':=by
 rcases pat_is p with ⟨k,q,_,_,hF,_⟩ |⟨_,ht,hg⟩
 ·exact absurd hI hF.no
 have HP:=zc (hg w a hS)
 have HT:=zc ht
 have HTb:=zc hT
 have hv:=hI.v
 have HI:=zc hI
 clear hg ht hS hT hI
 go_enter Tryz.func97,Tryz.ntmps97
 go_wp2_with (first |(go_at_call 35;refine (zb HP).mono ?_;rintro e w1 ⟨⟨T,y,F,rfl,hq,hcap⟩,hO1⟩;have HQ:Hid (vJ F w1 w1.heap.size (.iface T y) (Pro.zE p)):=⟨zA.mono (fun g hg _=>hg) F _ _ hq,(zb HT F).1,(zb HT F).2.1⟩;have HW:=zc hq.wf;have Hcap:=zc hcap;clear hq hcap) |(go_at_call 37;refine (newX F _ (.iface T y) _ (zb HQ) ⟨_,_,rfl⟩ (by have:=zb Hcap;omega)).mono ?_;rintro e w4 ⟨pb,W,cs,rfl,hPr,hW,hC1,hC2,hC3,hC4,hO4⟩;have HPr:=zc (⟨hPr.bound,hC1.cutsB,hC2,hC3,hC4⟩:ProgX w4 _ pb _ _ W cs);have HA:=zc (asks_of (zb HT F).2.2 hW);clear hPr hW hC1 hC2 hC3 hC4) |(go_at_call 38;refine (snew_any pb 64 (Sm.prg F (Pro.zE p)).2 (xA (Sm.prg F (Pro.zE p)).2 (Sm.prg F (Pro.zE p)).1 W cs) w4).mono ?_;rintro e w5 ⟨sb,mb,rfl,hs,hm,hSt,hO5⟩;have HSt:=zc hSt;clear hSt))
 go_ret2
 have hs1:=hO1.size
 have hs4:=hO4.size
 have hs5:=hO5.size
 have htl:=(zb HTb).lt
 have hX:=zb HPr
 have hS:=zb HSt
 have o1:=hS.olt sb hS.osb
 have o2:=hS.olt mb hS.omb
 refine ⟨sb,rfl,⟨zb HI,fun g=>w1.heap.size≤g∧g<w4.heap.size,_,_,pb,mb,F,W,cs,[],_,hS,⟨(hX.keep hO5 (fun _ _ f=>f)),((zb HTb).keep ((hO1.trans hO4).trans hO5) (fun f=>f)),fun g hg q=>(by rcases q with q |q<;>omega),fun g hg=>(by rcases hg with q |q<;>omega),fun g hg=>by omega⟩,by simp,zb HW,zb HA,fun g hg=>?_⟩,(hO1.trans hO4).trans hO5⟩
 rcases hg with hg |hg |hg
 ·exact ⟨by omega,by omega⟩
 ·rcases hg with rfl |rfl
  ·exact ⟨by omega,by omega⟩
  ·exact ⟨by omega,by omega⟩
 ·exact hg.elim
theorem fmt_pat (f:Nat):qD (fmtS f):=by
 have key:∀ s:ByteArray,(decide (s.size≤200) && decide ((Ref.zo s).2<0) && decide ((Pro.zD s).k=0) && decide ((Pro.zD s).n=(Pro.lets s).length) && decide ((Pro.zD s).v<300))=true→qD s:=by
  intro s h
  simp only [Bool.and_eq_true,decide_eq_true_eq] at h
  exact ⟨h.1.1.1.1,⟨h.1.1.1.2,h.1.1.2,h.1.2⟩,h.2⟩
 refine key _ ?_
 unfold fmtS
 split<;>decide +kernel
structure Rule0 (w:World)(base q:Nat)(keys:ByteArray)(more:Int)(R:Nat→Prop)(sb kb ub kc uc:Nat):Prop where
 c2:w.cell? ⟨q,2,none⟩=some (.slice (some ⟨kb,0,none⟩) 1 kc)
 c3:w.cell? ⟨q,3,none⟩=some (.slice (some ⟨ub,0,none⟩) 1 uc)
 c4:w.cell? ⟨q,4,none⟩=some (.int .i64 more)
 k0:w.cell? ⟨kb,0,none⟩=some (.pointer (some ⟨sb,0,none⟩))
 u0:w.cell? ⟨ub,0,none⟩=some (.int .i64 1)
 rd:Ready w R sb keys
 rg:∀ g,R g→base≤g∧g<w.heap.size
 nr:∀ g,g=q∨g=kb∨g=ub→base≤g∧¬R g
theorem keep3 {w:World}(o p:Obj):ze (fun _=>False) w ((w.alloc o).alloc p):=((ze.refl _ _).alloc o).alloc p
theorem zeG (gb kb ub:Nat)(keys:ByteArray)(more:Int)(w:World)(a:Nat→Addr)(hS:Start w a)(hT:TabAt w)(h:Sch0 w gb kb ub keys more)(hI:qD keys) :
  Calls Tryz.prog 51 #[.pointer (some ⟨gb,0,none⟩)] w fun x w'=>∃ q R sb kb' ub' kc uc,x = .returned (.tuple #[.pointer (some ⟨q,0,none⟩),.nilIface])∧Rule0 w' w.heap.size q keys more R sb kb' ub' kc uc∧ze (fun _=>False) w w':=by
 obtain ⟨c0,c2,c3,c4,c5,k0,u0⟩:=h
 have HC:Hid (∀ V,ze (fun _=>False) w V→_):=fun V hV=>zeE ub 1 1 V (zg hV _ _ u0 (fun f=>f))
 have HS:=zc hS
 have HT:=zc hT
 have HK:=zc (And.intro c0 (And.intro c2 (And.intro c3 k0)))
 have H45:=zc (And.intro c4 c5)
 clear hS hT c0 c2 c3 k0 u0
 go_enter Tryz.func51,Tryz.ntmps51
 go_wp2_with fail
 go_region_held3 (fun w'=>w'.cell? ⟨gb,4,none⟩=some (.slice (some ⟨ub,0,none⟩) 1 1)∧w'.cell? ⟨gb,5,none⟩=some (.int .i64 more)) (first |go_keep |exact ⟨d4,d5⟩) (first |(go_at_call 96;refine (zb HC _ (by repeat (first |exact ze.refl _ _ |refine ze.alloc ?_ _ |refine ze.drew ?_ |refine ze.drewN ?_ _))).mono ?_;rintro e w1 ⟨ub',uc,rfl,hu1,hu2,hu3,hO1⟩;have hu0:w.heap.size≤ub':=Nat.le_trans (ze.size (P:=fun _=>False) (by repeat (first |exact ze.refl _ _ |refine ze.alloc ?_ _ |refine ze.drew ?_ |refine ze.drewN ?_ _))) hu1;have HO1:Hid (ze (fun _=>False) w w1):=ze.trans (by repeat (first |exact ze.refl _ _ |refine ze.alloc ?_ _ |refine ze.drew ?_ |refine ze.drewN ?_ _)) hO1;have d4:=zg (zb HO1) _ _ (zb H45).1 (fun f=>f);have d5:=zg (zb HO1) _ _ (zb H45).2 (fun f=>f);clear hO1))
 have hO2:ze (fun _=>False) w (w1.alloc (.cells #[.pointer none,.pointer none,.slice none 0 0,.slice (some ⟨ub',0,none⟩) 1 uc,.int .i64 more] 223)):=(zb HO1).alloc _
 have s1:=(zb HO1).size
 have hz:(w1.alloc (.cells #[.pointer none,.pointer none,.slice none 0 0,.slice (some ⟨ub',0,none⟩) 1 uc,.int .i64 more] 223)).heap.size=w1.heap.size+1:=by simp
 have q2:=zm w1 _ rfl #[.pointer none,.pointer none,.slice none 0 0,.slice (some ⟨ub',0,none⟩) 1 uc,.int .i64 more] 223 2 _ rfl
 have q3:=zm w1 _ rfl #[.pointer none,.pointer none,.slice none 0 0,.slice (some ⟨ub',0,none⟩) 1 uc,.int .i64 more] 223 3 _ rfl
 have q4:=zm w1 _ rfl #[.pointer none,.pointer none,.slice none 0 0,.slice (some ⟨ub',0,none⟩) 1 uc,.int .i64 more] 223 4 _ rfl
 have f2:=zG w1 _ rfl #[.pointer none,.pointer none,.slice none 0 0,.slice (some ⟨ub',0,none⟩) 1 uc,.int .i64 more] 223 2
 have u9:=zg ((ze.refl (fun _=>False) w1).alloc (.cells #[.pointer none,.pointer none,.slice none 0 0,.slice (some ⟨ub',0,none⟩) 1 uc,.int .i64 more] 223)) _ _ hu3 (fun f=>f)
 generalize w1.alloc (.cells #[.pointer none,.pointer none,.slice none 0 0,.slice (some ⟨ub',0,none⟩) 1 uc,.int .i64 more] 223)=w2 at *
 have a0:=zg hO2 _ _ (zb HK).1 (fun f=>f)
 have a2:=zg hO2 _ _ (zb HK).2.1 (fun f=>f)
 have a3:=zg hO2 _ _ (zb HK).2.2.1 (fun f=>f)
 have a6:=zg hO2 _ _ (zb HK).2.2.2 (fun f=>f)
 have HFi:=zc (za keys w2 a ((zb HS).keep hO2) ((zb HT).keep hO2 (fun f=>f)) hI)
 have HO2:=zc hO2
 have HU:=zc (And.intro q3 (And.intro q4 u9))
 clear HC hO2 d4 d5 hu3 H45 HK q3 q4 u9
 go_wp2_with fail
 refine wp_loop_rounds 2 ?_
 rw [rounds_succ]
 go_wp2_with (go_at_call 97;refine (zb HFi).mono ?_;rintro e w3 ⟨sb,rfl,hR,hO3⟩;refine zb ?_)
 refine zc ?_
 have r2:=zg hO3 _ _ q2 (fun f=>f)
 have g2:=zP hO3 _ (by show w1.heap.size<_;omega) f2 (fun f=>f)
 have s3:=hO3.size
 have kap:∀ o p,ze (fun _=>False) w3 ((w3.alloc o).alloc p):=fun o p=>((ze.refl (fun _=>False) w3).alloc o).alloc p
 have r2a:∀ o p,((w3.alloc o).alloc p).cell? ⟨w1.heap.size,2,none⟩=some (.slice none 0 0):=fun o p=>zg (kap o p) _ _ r2 (fun f=>f)
 have g2a:∀ o p,((w3.alloc o).alloc p).frozen? ⟨w1.heap.size,2,none⟩=false:=fun o p=>zP (kap o p) _ (by show w1.heap.size<_;omega) g2 (fun f=>f)
 have HO3:=zc hO3
 have HR:=zc hR
 clear hO3 hR HFi kap a0 a2 a3 a6 q2 f2
 go_wp2_with fail
 rw [rounds_succ]
 go_wp2_with fail
 go_ret2
 have s2:=(zb HO2).size
 have kA:∀ o p,ze (fun _=>False) w3 ((w3.alloc o).alloc p):=fun o p=>keep3 o p
 have kS:∀ (V:World) u,ze (zt w1.heap.size) V (V.setCell ⟨w1.heap.size,2,none⟩ u).drew:=fun V u=>((ze.refl (zt w1.heap.size) V).mine 2 u).drew
 have oth:∀ (V:World) u j v,j≠2→V.cell? ⟨w1.heap.size,j,none⟩=some v→(V.setCell ⟨w1.heap.size,2,none⟩ u).drew.cell? ⟨w1.heap.size,j,none⟩=some v:=fun V u j v hj h=>zg ((ze.refl (fun _=>False) _).drew) _ _ ((World.cell?_setCell_other _ _ _ _ (by simp)).trans h) (fun f=>f)
 have k3:=fun o p=>zg (kA o p) _ _ (zg (zb HO3) _ _ (zb HU).1 (fun f=>f)) (fun f=>f)
 have k4:=fun o p=>zg (kA o p) _ _ (zg (zb HO3) _ _ (zb HU).2.1 (fun f=>f)) (fun f=>f)
 have ku:=fun o p=>zg (kA o p) _ _ (zg (zb HO3) _ _ (zb HU).2.2 (fun f=>f)) (fun f=>f)
 refine ⟨w1.heap.size,_,sb,w3.heap.size+1,ub',_,uc,rfl,⟨zg ((ze.refl (fun _=>False) _).drew) _ _ (World.cell?_setCell_same _ _ _ (r2a _ _)) (fun f=>f),oth _ _ 3 _ (by decide) (k3 _ _),oth _ _ 4 _ (by decide) (k4 _ _),zg (kS _ _) _ _ (zm (w3.alloc _) _ (by simp) _ _ 0 _ (by rw [Array.getElem?_append_left (by simp)];rfl)) (fun e=>?_),zg (kS _ _) _ _ (ku _ _) (fun e=>?_),((zb HR).young (kA _ _)).keep (kS _ _) (fun g hg e=>?_) (fun e=>?_),fun g hg=>⟨by omega,?_⟩,fun g hg=>?_⟩,(((zb HO2).trans (zb HO3)).trans (kA _ _)).later (kS _ _) (fun i hi=>by unfold zt at hi;omega)⟩
 ·have e2:w3.heap.size+1=w1.heap.size:=e
  omega
 ·have e2:ub'=w1.heap.size:=e
  omega
 ·unfold zt at e
  omega
 ·have e2:11=w1.heap.size:=e
  have:=(zb HT).lt
  omega
 ·simp
  omega
 ·rcases hg with rfl |rfl |rfl
  ·exact ⟨by omega,fun q=>by omega⟩
  ·exact ⟨by omega,fun q=>by omega⟩
  ·exact ⟨by omega,fun q=>by omega⟩
structure Rule1 (w:World)(base q:Nat)(pat:ByteArray)(f:Nat)(R1 R2:Nat→Prop)(sb:Nat)(fv:Value):Prop where
 c0:w.cell? ⟨q,0,none⟩=some (.pointer (some ⟨sb,0,none⟩))
 c1:w.cell? ⟨q,1,none⟩=some fv
 rd:Ready w R1 sb pat
 fm:(f=0∧fv = .pointer none)∨(1≤f∧∃ sb2,fv = .pointer (some ⟨sb2,0,none⟩)∧Ready w R2 sb2 (fmtS f))
 rg:∀ g,R1 g∨R2 g→base≤g∧g<w.heap.size
 dj:∀ g,R1 g→¬R2 g
 nr:base≤q∧¬R1 q∧¬R2 q
theorem zeH (gb:Nat)(pat:ByteArray)(f:Nat)(w:World)(a:Nat→Addr)(hS:Start w a)(hT:TabAt w)(h:Sch1 w gb pat f)(hI:qD pat)(hf:f≤6) :
  Calls Tryz.prog 51 #[.pointer (some ⟨gb,6,none⟩)] w fun x w'=>∃ q R1 R2 sb fv,x = .returned (.tuple #[.pointer (some ⟨q,0,none⟩),.nilIface])∧Rule1 w' w.heap.size q pat f R1 R2 sb fv∧ze (fun _=>False) w w':=by
 obtain ⟨c6,c7,c8,c9,c10,c11⟩:=h
 have HC:=zc zeD
 have HS:=zc hS
 have HT:=zc hT
 have HK:=zc (And.intro c6 (And.intro c7 (And.intro c8 c9)))
 have H45:=zc (And.intro c10 c11)
 have HO:Hid (ze (fun _=>False) w w):=ze.refl _ _
 clear hS hT c6 c7 c8 c9
 go_enter Tryz.func51,Tryz.ntmps51
 go_wp2_with fail
 go_region_held3 (fun w'=>w'.cell? ⟨gb,10,none⟩=some (.slice none 0 0)∧w'.cell? ⟨gb,11,none⟩=some (.int .i64 (-2))) (first |go_keep |exact ⟨d4,d5⟩) (first |(go_at_call 96;refine (zb HC _).mono ?_;rintro e w1 ⟨rfl,hw1⟩;have HO1:Hid (ze (fun _=>False) w w1):=(by rw [hw1];exact (by repeat (first |exact ze.refl _ _ |refine ze.alloc ?_ _ |refine ze.drew ?_ |refine ze.drewN ?_ _)));have d4:=zg (zb HO1) _ _ (zb H45).1 (fun f=>f);have d5:=zg (zb HO1) _ _ (zb H45).2 (fun f=>f);clear hw1))
 have hO2:ze (fun _=>False) w (w1.alloc (.cells #[.pointer none,.pointer none,.slice none 0 0,.slice none 0 0,.int .i64 (-2)] 223)):=(zb HO1).alloc _
 have s1:=(zb HO1).size
 have hz:(w1.alloc (.cells #[.pointer none,.pointer none,.slice none 0 0,.slice none 0 0,.int .i64 (-2)] 223)).heap.size=w1.heap.size+1:=by simp
 have q0:=zm w1 _ rfl #[.pointer none,.pointer none,.slice none 0 0,.slice none 0 0,.int .i64 (-2)] 223 0 _ rfl
 have q1:=zm w1 _ rfl #[.pointer none,.pointer none,.slice none 0 0,.slice none 0 0,.int .i64 (-2)] 223 1 _ rfl
 have q2:=zm w1 _ rfl #[.pointer none,.pointer none,.slice none 0 0,.slice none 0 0,.int .i64 (-2)] 223 2 _ rfl
 have fz:∀ j,(w1.alloc (.cells #[.pointer none,.pointer none,.slice none 0 0,.slice none 0 0,.int .i64 (-2)] 223)).frozen? ⟨w1.heap.size,j,none⟩=false:=fun j=>zG w1 _ rfl #[.pointer none,.pointer none,.slice none 0 0,.slice none 0 0,.int .i64 (-2)] 223 j
 generalize w1.alloc (.cells #[.pointer none,.pointer none,.slice none 0 0,.slice none 0 0,.int .i64 (-2)] 223)=w2 at *
 have a6:=zg hO2 _ _ (zb HK).1 (fun f=>f)
 have a7:=zg hO2 _ _ (zb HK).2.1 (fun f=>f)
 have HFi:=zc (za pat w2 a ((zb HS).keep hO2) ((zb HT).keep hO2 (fun f=>f)) hI)
 have HO2:=zc hO2
 clear HC hO2 d4 d5 H45
 go_wp2_with (go_at_call 97;refine (zb HFi).mono ?_;rintro e w3 ⟨sb,rfl,hR,hO3⟩;refine zb ?_)
 refine zc ?_
 have s3:=hO3.size
 have r0:=zg hO3 _ _ q0 (fun f=>f)
 have r1:=zg hO3 _ _ q1 (fun f=>f)
 have r2:=zg hO3 _ _ q2 (fun f=>f)
 have gz:∀ j,w3.frozen? ⟨w1.heap.size,j,none⟩=false:=fun j=>zP hO3 _ (by show w1.heap.size<_;omega) (fz j) (fun f=>f)
 have HO3:=zc ((zb HO2).trans hO3)
 have HR:=zc hR
 clear hO3 hR HFi a6 a7 q0 q1 q2 fz
 have hm:gb≠w1.heap.size:=by have:=World.block_lt_of_cell? w _ (zb HK).1;simp at this;omega
 have kS:ze (zt w1.heap.size) w3 (w3.setCell ⟨w1.heap.size,0,none⟩ (.pointer (some ⟨sb,0,none⟩))):=(ze.refl _ _).mine 0 _
 have g0:=gz 0
 have g1:=gz 1
 have a8:∀ u,(w3.setCell ⟨w1.heap.size,0,none⟩ u).cell? ⟨gb,8,none⟩=some (.int .i64 (f:Nat)):=fun u=>zg ((ze.refl (zt w1.heap.size) w3).mine 0 u) _ _ (zg (zb HO3) _ _ (zb HK).2.2.1 (fun f=>f)) hm
 have a9:∀ u,(w3.setCell ⟨w1.heap.size,0,none⟩ u).cell? ⟨gb,9,none⟩=some (.slice none 0 0):=fun u=>zg ((ze.refl (zt w1.heap.size) w3).mine 0 u) _ _ (zg (zb HO3) _ _ (zb HK).2.2.2 (fun f=>f)) hm
 clear gz
 have hRb:∀ g,(w2.heap.size≤g∧g<w3.heap.size)→¬zt w1.heap.size g:=fun g hg e=>by unfold zt at e;omega
 have hTb:¬zt w1.heap.size 11:=fun e=>by have e2:11=w1.heap.size:=e;have:=(zb HT).lt;omega
 by_cases h0:f=0
 ·subst h0
  go_wp2_with fail
  refine wp_loop_rounds 1 ?_
  rw [rounds_succ]
  go_wp2_with fail
  go_ret2
  refine ⟨w1.heap.size,_,fun _=>False,sb,.pointer none,rfl,⟨World.cell?_setCell_same _ _ _ r0,(World.cell?_setCell_other _ _ _ _ (by simp)).trans r1,(zb HR).keep kS hRb hTb,.inl ⟨rfl,rfl⟩,fun g hg=>?_,fun _ _ f=>f,⟨by omega,fun q=>by omega,fun f=>f⟩⟩,(zb HO3).later kS (fun i hi=>by unfold zt at hi;omega)⟩
  rcases hg with hg |hg
  ·exact ⟨by omega,by simp;omega⟩
  ·exact hg.elim
 ·have hb:((f:Int) != 0)=true:=by simp;omega
  have HFm:=zc (fun V=>zet f (by omega) hf V)
  have HO4:Hid (∀ u,ze (fun _=>False) w (w3.setCell ⟨w1.heap.size,0,none⟩ u)):=fun u=>(zb HO3).later ((ze.refl (zt w1.heap.size) w3).mine 0 u) (fun i hi=>by unfold zt at hi;omega)
  go_wp2_with (go_at_call 98;refine (zb HFm _).mono ?_;rintro e w5 ⟨rfl,hO5⟩;refine zb ?_)
  refine zc ?_
  have hO4:=zb HO4 (.pointer (some ⟨sb,0,none⟩))
  have hW:=hO4.trans hO5
  have s5:=hO5.size
  have z5:w3.heap.size≤w5.heap.size:=by simpa using s5
  have y0:=zg hO5 _ _ (World.cell?_setCell_same w3 ⟨w1.heap.size,0,none⟩ (.pointer (some ⟨sb,0,none⟩)) r0) (fun f=>f)
  have y1:=zg hO5 _ _ ((World.cell?_setCell_other _ _ _ _ (by simp)).trans r1) (fun f=>f)
  have f1:w5.frozen? ⟨w1.heap.size,1,none⟩=false:=zP hO5 _ (by simp;omega) (by rw [zk];exact g1) (fun f=>f)
  have b9:=zg hO5 _ _ (a9 (.pointer (some ⟨sb,0,none⟩))) (fun f=>f)
  have HR5:=zc (((zb HR).keep kS hRb hTb).young hO5)
  have HFi:=zc (za (fmtS f) w5 a ((zb HS).keep hW) ((zb HT).keep hW (fun f=>f)) (fmt_pat f))
  have HW:=zc hW
  clear hO4 hW hO5 s5 a8 a9 r0 r1 r2 g0 g1 kS HR HFm HO4
  go_wp2_with (go_at_call 97;refine (zb HFi).mono ?_;rintro e w6 ⟨sb2,rfl,hR6,hO6⟩;refine zb ?_)
  refine zc ?_
  have s6:=hO6.size
  have x0:=zg hO6 _ _ y0 (fun f=>f)
  have x1:=zg hO6 _ _ y1 (fun f=>f)
  have f6:w6.frozen? ⟨w1.heap.size,1,none⟩=false:=zP hO6 _ (by show w1.heap.size<_;omega) f1 (fun f=>f)
  have c9:∀ u,(w6.setCell ⟨w1.heap.size,1,none⟩ u).cell? ⟨gb,9,none⟩=some (.slice none 0 0):=fun u=>zg ((ze.refl (zt w1.heap.size) w6).mine 1 u) _ _ (zg hO6 _ _ b9 (fun f=>f)) hm
  have kS:ze (zt w1.heap.size) w6 (w6.setCell ⟨w1.heap.size,1,none⟩ (.pointer (some ⟨sb2,0,none⟩))):=(ze.refl _ _).mine 1 _
  have HR1:=zc (((zb HR5).young hO6).keep kS hRb hTb)
  have HR2:=zc (hR6.keep kS (fun g hg e=>by unfold zt at e;omega) hTb)
  have HW6:=zc (((zb HW).trans hO6).later kS (fun i hi=>by unfold zt at hi;omega))
  clear hO6 hR6 HFi HR5 HW kS y0 y1 f1 b9
  go_wp2_with fail
  refine wp_loop_rounds 1 ?_
  rw [rounds_succ]
  go_wp2_with fail
  go_ret2
  refine ⟨w1.heap.size,_,_,sb,_,rfl,⟨(World.cell?_setCell_other _ _ _ _ (by simp)).trans x0,World.cell?_setCell_same _ _ _ x1,zb HR1,.inr ⟨by omega,sb2,rfl,zb HR2⟩,fun g hg=>?_,fun g q1 q2=>by omega,⟨by omega,fun q=>by omega,fun q=>by omega⟩⟩,zb HW6⟩
  rcases hg with hg |hg
  ·exact ⟨by omega,by simp;omega⟩
  ·exact ⟨by omega,by simp;omega⟩
set_option maxHeartbeats 4000000
structure Rules (w:World)(base rb q0 q1 kb ub kc uc:Nat)(keys pat:ByteArray)(more:Int)(f:Nat)(R0 R1 R2:Nat→Prop)(sb0 sb1:Nat)(fv:Value):Prop where
 a0:w.cell? ⟨rb,0,none⟩=some (.pointer (some ⟨q0,0,none⟩))
 a1:w.cell? ⟨rb,1,none⟩=some (.pointer (some ⟨q1,0,none⟩))
 c2:w.cell? ⟨q0,2,none⟩=some (.slice (some ⟨kb,0,none⟩) 1 kc)
 c3:w.cell? ⟨q0,3,none⟩=some (.slice (some ⟨ub,0,none⟩) 1 uc)
 c4:w.cell? ⟨q0,4,none⟩=some (.int .i64 more)
 k0:w.cell? ⟨kb,0,none⟩=some (.pointer (some ⟨sb0,0,none⟩))
 u0:w.cell? ⟨ub,0,none⟩=some (.int .i64 1)
 d0:w.cell? ⟨q1,0,none⟩=some (.pointer (some ⟨sb1,0,none⟩))
 d1:w.cell? ⟨q1,1,none⟩=some fv
 rd0:Ready w R0 sb0 keys
 rd1:Ready w R1 sb1 pat
 fm:(f=0∧fv = .pointer none)∨(1≤f∧∃ sb2,fv = .pointer (some ⟨sb2,0,none⟩)∧Ready w R2 sb2 (fmtS f))
 st:∀ g,g=rb∨g=q0∨g=q1∨g=kb∨g=ub→base≤g∧¬R0 g∧¬R1 g∧¬R2 g
 dj:∀ g,(R0 g→¬R1 g∧¬R2 g)∧(R1 g→¬R2 g)
 rg:∀ g,R0 g∨R1 g∨R2 g→base≤g∧g<w.heap.size
theorem Tryz.infoSchP:(Tryz.prog.info? 129).map (fun i=>(i.zero,i.size,i.bytes))=some (some (.pointer none),1,8):=by kernel_rfl
theorem zeI (gb kb ub:Nat)(keys pat:ByteArray)(more:Int)(f cap:Nat)(w:World)(a:Nat→Addr)(hS:Start w a)(hT:TabAt w)(h0:Sch0 w gb kb ub keys more)(h1:Sch1 w gb pat f)(hm:more = -2∨more = -1∨more=1)(hf:f≤6)(hI:qD keys)(hJ:qD pat)(_hc:2≤cap) :
  Calls Tryz.prog 27 #[.slice (some ⟨gb,0,none⟩) 2 cap] w fun x w'=>∃ rb rc q0 q1 kb' ub' kc uc R0 R1 R2 sb0 sb1 fv,x = .returned (.tuple #[.slice (some ⟨rb,0,none⟩) 2 rc,.nilIface])∧Rules w' w.heap.size rb q0 q1 kb' ub' kc uc keys pat more f R0 R1 R2 sb0 sb1 fv∧ze (fun _=>False) w w':=by
 obtain ⟨i0,hi0,hz0,hz1,hz2⟩:=info_parts Tryz.infoSchP
 have HF0:=zc (fit0_any gb kb ub keys more w h0 hm)
 have HS:=zc hS
 have HT:=zc hT
 have H0:=zc h0
 have H1:=zc h1
 clear hS hT h0 h1
 go_enter Tryz.func27,Tryz.ntmps27
 go_wp2_with fail
 refine wp_loop_rounds 3 ?_
 rw [rounds_succ]
 go_wp2_with (go_at_call 50;refine (zb HF0).mono ?_;rintro e w1 ⟨rfl,hO1⟩;refine zb ?_)
 refine zc ?_
 have s1:=hO1.size
 have HR0:=zc (zeG gb kb ub keys more w1 a ((zb HS).keep hO1) ((zb HT).keep hO1 (fun f=>f)) ((zb H0).keep hO1) hI)
 have HO1:=zc hO1
 clear hO1 HF0
 go_wp2_with (first |(go_at_call 51;refine (zb HR0).mono ?_;rintro e w2 ⟨q0,R0,sb0,kb0,ub0,kc,uc,rfl,hL,hO2⟩;have HL:=zc hL;have HO2:=zc hO2;clear hL hO2) |(at_builtin;refine zb ?_))
 refine zc ?_
 have s2:=(zb HO2).size
 refine xH _ rfl _ _ 89 rfl w2.heap.size 129 i0 (.pointer none) 1 8 Tryz.underlying89 hi0 hz0 hz1 hz2 rfl (by decide) _ _ _ rfl (World.ownsRow_nil _ _ _ _) _ 1 1 [.pointer (some ⟨q0,0,none⟩)] rfl rfl (cell_one_new _ _ _) (fun x hx=>by simp at hx;subst hx;rfl) (by unfold maxLen;omega) (by omega) (by simp) ?_
 intro v3 w3 hrow3 hgrow3 _
 obtain ⟨xa,xc,rfl⟩:=Qc hrow3
 have hO3:ze (fun _=>False) w2 w3:=((ze.refl _ w2).alloc _).grown hgrow3 (fun j hj=>by have hj':(Value.slice none 0 0).ownBlock=some j:=hj;simp [Value.ownBlock] at hj')
 have s3:=hO3.size
 have HW3:=zc (((zb HO1).trans (zb HO2)).trans hO3)
 have HRow3:=zc hrow3
 have HF1:=zc (fit1_any gb pat f w3 ((zb H1).keep (zb HW3)) hf)
 have HO3:=zc hO3
 clear hrow3 hgrow3 hO3 HR0
 go_wp2_with fail
 rw [rounds_succ]
 go_wp2_with (go_at_call 50;refine (zb HF1).mono ?_;rintro e w4 ⟨rfl,hO4⟩;refine zb ?_)
 refine zc ?_
 have s4:=hO4.size
 have HR1:=zc (zeH gb pat f w4 a ((zb HS).keep ((zb HW3).trans hO4)) ((zb HT).keep ((zb HW3).trans hO4) (fun f=>f)) ((zb H1).keep ((zb HW3).trans hO4)) hJ hf)
 have HO4:=zc hO4
 clear hO4 HF1
 go_wp2_with (first |(go_at_call 51;refine (zb HR1).mono ?_;rintro e w5 ⟨q1,R1,R2,sb1,fv,rfl,hL,hO5⟩;have HL1:=zc hL;have HO5:=zc hO5;clear hL hO5) |(at_builtin;refine zb ?_))
 refine zc ?_
 have s5:=(zb HO5).size
 have hrow5:=zn (zb HRow3) ((zb HO4).trans (zb HO5)) (fun _ _ f=>f)
 have hblk:=zh (zb HRow3)
 refine xH _ rfl _ _ 89 rfl w2.heap.size 129 i0 (.pointer none) 1 8 Tryz.underlying89 hi0 hz0 hz1 hz2 rfl (by decide) _ _ _ rfl (World.ownsRow.alloc hrow5 _) _ 1 1 [.pointer (some ⟨q1,0,none⟩)] rfl rfl (cell_one_new _ _ _) (fun x hx=>by simp at hx;subst hx;rfl) (by unfold maxLen;omega) (by omega) (by simp;omega) ?_
 intro v6 w6 hrow6 hgrow6 hsep
 have hO6:ze (fun g=>w2.heap.size≤g∧g<w3.heap.size) w5 w6:=((ze.refl _ w5).alloc _).grown hgrow6 (fun j hj=>.inl (hblk j hj))
 have s6:=hO6.size
 rcases hrow6.2 with ⟨_,hbad⟩ |⟨rb,rc,cur,rfl,_⟩
 ·simp at hbad
 have e0:w6.cell? ⟨rb,0,none⟩=some (.pointer (some ⟨q0,0,none⟩)):=hrow6.cellAt 0 (by decide)
 have e1:w6.cell? ⟨rb,1,none⟩=some (.pointer (some ⟨q1,0,none⟩)):=hrow6.cellAt 1 (by decide)
 have hrb:(w2.heap.size≤rb∧rb<w3.heap.size)∨w5.heap.size≤rb:=(hsep rb rfl).imp (hblk rb) (fun q=>by simp at q;omega)
 have hL:=zb HL
 have hM:=zb HL1
 have b0:q0<w2.heap.size:=World.block_lt_of_cell? w2 _ hL.c2
 have b1:kb0<w2.heap.size:=World.block_lt_of_cell? w2 _ hL.k0
 have b2:ub0<w2.heap.size:=World.block_lt_of_cell? w2 _ hL.u0
 have b3:q1<w5.heap.size:=World.block_lt_of_cell? w5 _ hM.c0
 have s0:=(zb HO1).size
 have htl:=(zb HT).lt
 have k5:=((zb HO3).trans (zb HO4)).trans (zb HO5)
 have c:∀ p v,p.block<w2.heap.size→w2.cell? p=some v→w6.cell? p=some v:=fun p v hp h=>zg hO6 _ _ (zg k5 _ _ h (fun f=>f)) (fun q=>by omega)
 have d:∀ p v,w4.heap.size≤p.block→w5.cell? p=some v→w6.cell? p=some v:=fun p v hp h=>zg hO6 _ _ h (fun q=>by omega)
 have n0:=hL.nr
 have n1:=hM.nr
 have HRu:Hid (Rules w6 w.heap.size rb q0 q1 kb0 ub0 kc uc keys pat more f R0 R1 R2 sb0 sb1 fv):=by
  refine ⟨e0,e1,c _ _ b0 hL.c2,c _ _ b0 hL.c3,c _ _ b0 hL.c4,c _ _ b1 hL.k0,c _ _ b2 hL.u0,d _ _ n1.1 hM.c0,d _ _ n1.1 hM.c1,(hL.rd.young k5).keep hO6 (fun g hg q=>by have:=hL.rg g hg;omega) (fun q=>by omega),hM.rd.keep hO6 (fun g hg q=>by have:=hM.rg g (.inl hg);omega) (fun q=>by omega),hM.fm.imp_right (fun ⟨x1,sb2,x2,x3⟩=>⟨x1,sb2,x2,x3.keep hO6 (fun g hg q=>by have:=hM.rg g (.inr hg);omega) (fun q=>by omega)⟩),fun g hg=>?_,fun g=>⟨fun hg=>⟨fun q=>?_,fun q=>?_⟩,hM.dj g⟩,fun g hg=>?_⟩
  ·rcases hg with rfl |rfl |rfl |rfl |rfl
   ·exact ⟨by omega,fun q=>by have:=hL.rg _ q;omega,fun q=>by have:=hM.rg _ (.inl q);omega,fun q=>by have:=hM.rg _ (.inr q);omega⟩
   ·exact ⟨by have:=(n0 _ (.inl rfl)).1;omega,(n0 _ (.inl rfl)).2,fun q=>by have:=hM.rg _ (.inl q);omega,fun q=>by have:=hM.rg _ (.inr q);omega⟩
   ·exact ⟨by omega,fun q=>by have:=hL.rg _ q;omega,n1.2.1,n1.2.2⟩
   ·exact ⟨by have:=(n0 _ (.inr (.inl rfl))).1;omega,(n0 _ (.inr (.inl rfl))).2,fun q=>by have:=hM.rg _ (.inl q);omega,fun q=>by have:=hM.rg _ (.inr q);omega⟩
   ·exact ⟨by have:=(n0 _ (.inr (.inr rfl))).1;omega,(n0 _ (.inr (.inr rfl))).2,fun q=>by have:=hM.rg _ (.inl q);omega,fun q=>by have:=hM.rg _ (.inr q);omega⟩
  ·have e1:=hL.rg g hg
   have e2:=hM.rg g (.inl q)
   omega
  ·have e1:=hL.rg g hg
   have e2:=hM.rg g (.inr q)
   omega
  ·rcases hg with q |q
   ·have e1:=hL.rg g q
    omega
   ·have e2:=hM.rg g q
    omega
 have HW6:Hid (ze (fun _=>False) w w6):=(((zb HW3).trans (zb HO4)).trans (zb HO5)).later hO6 (fun i hi=>by omega)
 clear hL hM n0 n1 c d k5 hO6 hrow6 hgrow6 hsep hrow5 hblk e0 e1 hrb HL HL1 HO1 HO2 HO3 HO4 HO5 HRow3 HW3 HR1
 go_wp2_with fail
 rw [rounds_succ]
 go_wp2_with fail
 go_ret2
 exact ⟨rb,_,q0,q1,kb0,ub0,kc,uc,R0,R1,R2,sb0,sb1,fv,rfl,zb HRu,zb HW6⟩
theorem zeJ (q sb:Nat)(p s:ByteArray)(R:Nat→Prop)(tv:Value)(w:World)(c0:w.cell? ⟨q,0,none⟩=some (.pointer (some ⟨sb,0,none⟩)))(h:Ready w R sb p)(hs:Kc.textB s=true)(hL:jQ w tv (Pro.letM s (s.size+1) 0))(hLo:∀ g,tv.ownBlock=some g→¬R g∧g<w.heap.size) :
  Calls Tryz.prog 139 #[.pointer (some ⟨q,0,none⟩),tv] w fun x w'=>FindR w w' R sb p s x:=by
 have HF:=zc (jv sb p s R tv w h hs hL hLo)
 obtain ⟨ta,tc,rfl⟩:=hL.slice
 clear h hL hLo hs
 go_enter Tryz.func139,Tryz.ntmps139
 go_wp2_with (go_at_call 40;refine (zb HF).mono ?_;rintro e w1 ⟨b,rfl,hr⟩;have HR:=zc hr;clear hr)
 go_ret
 exact ⟨b,rfl,zb HR⟩
theorem zeK (q sb:Nat)(p s:ByteArray)(R:Nat→Prop)(tv:Value)(w:World)(c0:w.cell? ⟨q,1,none⟩=some (.pointer (some ⟨sb,0,none⟩)))(h:Ready w R sb p)(hs:Kc.textB s=true)(hL:jQ w tv (Pro.letM s (s.size+1) 0))(hLo:∀ g,tv.ownBlock=some g→¬R g∧g<w.heap.size) :
  Calls Tryz.prog 140 #[.pointer (some ⟨q,0,none⟩),tv] w fun x w'=>FindR w w' R sb p s x:=by
 have HF:=zc (jv sb p s R tv w h hs hL hLo)
 obtain ⟨ta,tc,rfl⟩:=hL.slice
 clear h hL hLo hs
 go_enter Tryz.func140,Tryz.ntmps140
 go_wp2_with (go_at_call 40;refine (zb HF).mono ?_;rintro e w1 ⟨b,rfl,hr⟩;have HR:=zc hr;clear hr)
 go_ret
 exact ⟨b,rfl,zb HR⟩
theorem zeL (q:Nat)(tv:Value)(w:World)(c0:w.cell? ⟨q,1,none⟩=some (.pointer none))(hL:∃ a n c,tv = .slice a n c):Calls Tryz.prog 140 #[.pointer (some ⟨q,0,none⟩),tv] w fun x w'=>x = .returned (.bool true)∧w'=w:=by
 obtain ⟨ta,tn,tc,rfl⟩:=hL
 go_enter Tryz.func140,Tryz.ntmps140
 go_wp2_with fail
 go_ret
 exact ⟨rfl,rfl⟩
def ChildIs (w:World)(base:Nat)(more:Int)(b:Bool)(nv:Value)(ex:Bool):Prop:=((b=true∨more=1)∧ex=false∧∃ g c,nv = .slice (some ⟨g,0,none⟩) 1 c∧w.cell? ⟨g,0,none⟩=some (.int .i64 1)∧base≤g)∨(b=false∧more = -2∧nv = .slice none 0 0∧ex=false)∨(b=false∧more = -1∧nv = .slice none 0 0∧ex=true)
def ChildR (w w':World)(R:Nat→Prop)(sb:Nat)(keys s:ByteArray)(more:Int)(x:Ending):Prop:=∃ (b:Bool) (nv:Value) (ex:Bool),x = .returned (.tuple #[nv,.bool ex])∧(b=true↔Hits keys s)∧ChildIs w' w.heap.size more b nv ex∧Ready w' (fun g=>(R g∨w.heap.size≤g)∧g<w'.heap.size) sb keys∧∃ O:Nat→Prop,(∀ g,O g→R g∧g≠11)∧ze O w w'
theorem zeM (q kb ub kc uc sb:Nat)(keys s:ByteArray)(more:Int)(R:Nat→Prop)(tv:Value)(w:World)(c2:w.cell? ⟨q,2,none⟩=some (.slice (some ⟨kb,0,none⟩) 1 kc))(c3:w.cell? ⟨q,3,none⟩=some (.slice (some ⟨ub,0,none⟩) 1 uc))(c4:w.cell? ⟨q,4,none⟩=some (.int .i64 more))(k0:w.cell? ⟨kb,0,none⟩=some (.pointer (some ⟨sb,0,none⟩)))(u0:w.cell? ⟨ub,0,none⟩=some (.int .i64 1))(hq:¬R q)(hu:¬R ub)(hm:more = -2∨more = -1∨more=1)(h:Ready w R sb keys)(hs:Kc.textB s=true)(hL:jQ w tv (Pro.letM s (s.size+1) 0))(hLo:∀ g,tv.ownBlock=some g→¬R g∧g<w.heap.size) :
  Calls Tryz.prog 141 #[.pointer (some ⟨q,0,none⟩),tv] w fun x w'=>ChildR w w' R sb keys s more x:=by
 have HF:=zc (jv sb keys s R tv w h hs hL hLo)
 obtain ⟨ta,tc,rfl⟩:=hL.slice
 have HC:=zc (And.intro c3 (And.intro c4 u0))
 clear h hL hLo hs c3 c4 u0
 go_enter Tryz.func141,Tryz.ntmps141
 go_wp2_with fail
 refine wp_loop_rounds 2 ?_
 rw [rounds_succ]
 go_wp2_with (go_at_call 40;refine (zb HF).mono ?_;rintro e w1 ⟨b,rfl,hb,hR,O,hO,hK⟩;refine zb ?_)
 refine zc ?_
 have d3:=zg hK _ _ (zb HC).1 (fun e=>hq (hO _ e).1)
 have d4:=zg hK _ _ (zb HC).2.1 (fun e=>hq (hO _ e).1)
 have d0:=zg hK _ _ (zb HC).2.2 (fun e=>hu (hO _ e).1)
 have s1:=hK.size
 have HE:Hid (∀ w2 nv ex,ze (fun _=>False) w1 w2→ChildIs w2 w.heap.size more b nv ex→ChildR w w2 R sb keys s more (.returned (.tuple #[nv,.bool ex]))):=by
  intro w2 nv ex k hi
  have s2:=k.size
  refine ⟨b,nv,ex,rfl,hb,hi,?_,O,hO,hK.laterO k (fun _ _ f=>f.elim)⟩
  obtain ⟨hI,A,O9,D,pb,mb,F,W,cs,es,sv,h1,h2,h3,h4,h5,h6⟩:=hR.young k
  exact ⟨hI,A,O9,D,pb,mb,F,W,cs,es,sv,h1,h2,h3,h4,h5,fun g hg=>⟨(h6 g hg).1,Nat.lt_of_lt_of_le (h6 g hg).2 s2⟩⟩
 clear hb hR hO hK HC HF hq hu
 cases b
 ·clear d3 d0
  rcases hm with rfl |rfl |rfl
  ·go_wp2_with fail
   rw [rounds_succ]
   go_wp2_with fail
   go_ret2
   exact zb HE _ _ _ (ze.refl _ _) (.inr (.inl ⟨rfl,rfl,rfl,rfl⟩))
  ·go_wp2_with fail
   rw [rounds_succ]
   go_wp2_with fail
   go_ret2
   exact zb HE _ _ _ (ze.refl _ _) (.inr (.inr ⟨rfl,rfl,rfl,rfl⟩))
  ·go_wp2_with fail
   rw [rounds_succ]
   go_wp2_with fail
   go_ret2
   exact zb HE _ _ _ ((ze.refl _ _).alloc _) (.inl ⟨.inr rfl,rfl,_,_,rfl,zm _ _ rfl _ _ 0 _ rfl,by omega⟩)
 ·go_wp2_with fail
  rw [rounds_succ]
  go_wp2_with fail
  go_ret2
  refine zb HE _ _ _ (ze.drew (keep3 _ _)) (.inl ⟨.inl rfl,rfl,_,_,rfl,?_,by omega⟩)
  refine zg ((ze.refl (fun _=>False) _).drew) _ _ (zm (w1.alloc _) _ (by simp) _ _ 0 _ ?_) (fun f=>f)
  rw [Array.getElem?_append_left (by simp)]
  rfl
structure Hg (w:World)(zv:Nat)(a b1 b2 b3:Bool):Prop where
 t0:w.cell? ⟨zv,0,none⟩=some (.bool true)
 t1:w.cell? ⟨zv,1,none⟩=some (.bool false)
 t8:w.cell? ⟨zv,8,none⟩=some (.bool false)
 t9:w.cell? ⟨zv,9,none⟩=some (.bool false)
 t10:w.cell? ⟨zv,10,none⟩=some (.bool false)
 t11:w.cell? ⟨zv,11,none⟩=some (.bool false)
 t12:w.cell? ⟨zv,12,none⟩=some (.bool false)
 t13:w.cell? ⟨zv,13,none⟩=some (.bool a)
 t20:w.cell? ⟨zv,20,none⟩=some (.bool false)
 t21:w.cell? ⟨zv,21,none⟩=some (.bool b1)
 t22:w.cell? ⟨zv,22,none⟩=some (.bool b2)
 t23:w.cell? ⟨zv,23,none⟩=some (.bool b3)
 fz:∀ j,w.frozen? ⟨zv,j,none⟩=false
theorem Hg.lt {w:World}{zv:Nat}{a b1 b2 b3:Bool}(h:Hg w zv a b1 b2 b3):zv<w.heap.size:=World.block_lt_of_cell? w ⟨zv,0,none⟩ h.t0
theorem Hg.keep {P:Nat→Prop}{w w':World}{zv:Nat}{a b1 b2 b3:Bool}(h:Hg w zv a b1 b2 b3)(k:ze P w w')(hn:¬P zv):Hg w' zv a b1 b2 b3:=
 have c:=fun j v (hp:w.cell? ⟨zv,j,none⟩=some v)=>zg k ⟨zv,j,none⟩ v hp hn
 ⟨c _ _ h.t0,c _ _ h.t1,c _ _ h.t8,c _ _ h.t9,c _ _ h.t10,c _ _ h.t11,c _ _ h.t12,c _ _ h.t13,c _ _ h.t20,c _ _ h.t21,c _ _ h.t22,c _ _ h.t23,fun j=>zP k _ h.lt (h.fz j) hn⟩
theorem Hg.set {w:World}{zv:Nat}{a b1 b2 b3 a' b1' b2' b3':Bool}(h:Hg w zv a b1 b2 b3)(i:Nat)(hi:(i=13∧a'=true∧b1'=b1∧b2'=b2∧b3'=b3)∨(i=21∧a'=a∧b1'=true∧b2'=b2∧b3'=b3)∨(i=22∧a'=a∧b1'=b1∧b2'=true∧b3'=b3)∨(i=23∧a'=a∧b1'=b1∧b2'=b2∧b3'=true)):Hg (w.setCell ⟨zv,i,none⟩ (.bool true)) zv a' b1' b2' b3':=by
 have c:∀ j v,j≠i→w.cell? ⟨zv,j,none⟩=some v→(w.setCell ⟨zv,i,none⟩ (.bool true)).cell? ⟨zv,j,none⟩=some v:=fun j v hj hp=>(World.cell?_setCell_other _ _ _ _ (by simp)).trans hp
 have f:∀ j,(w.setCell ⟨zv,i,none⟩ (.bool true)).frozen? ⟨zv,j,none⟩=false:=fun j=>(zk _ _ _ _).trans (h.fz j)
 rcases hi with ⟨rfl,rfl,rfl,rfl,rfl⟩ |⟨rfl,rfl,rfl,rfl,rfl⟩ |⟨rfl,rfl,rfl,rfl,rfl⟩ |⟨rfl,rfl,rfl,rfl,rfl⟩
 ·exact ⟨c _ _ (by decide) h.t0,c _ _ (by decide) h.t1,c _ _ (by decide) h.t8,c _ _ (by decide) h.t9,c _ _ (by decide) h.t10,c _ _ (by decide) h.t11,c _ _ (by decide) h.t12,World.cell?_setCell_same _ _ _ h.t13,c _ _ (by decide) h.t20,c _ _ (by decide) h.t21,c _ _ (by decide) h.t22,c _ _ (by decide) h.t23,f⟩
 ·exact ⟨c _ _ (by decide) h.t0,c _ _ (by decide) h.t1,c _ _ (by decide) h.t8,c _ _ (by decide) h.t9,c _ _ (by decide) h.t10,c _ _ (by decide) h.t11,c _ _ (by decide) h.t12,c _ _ (by decide) h.t13,c _ _ (by decide) h.t20,World.cell?_setCell_same _ _ _ h.t21,c _ _ (by decide) h.t22,c _ _ (by decide) h.t23,f⟩
 ·exact ⟨c _ _ (by decide) h.t0,c _ _ (by decide) h.t1,c _ _ (by decide) h.t8,c _ _ (by decide) h.t9,c _ _ (by decide) h.t10,c _ _ (by decide) h.t11,c _ _ (by decide) h.t12,c _ _ (by decide) h.t13,c _ _ (by decide) h.t20,c _ _ (by decide) h.t21,World.cell?_setCell_same _ _ _ h.t22,c _ _ (by decide) h.t23,f⟩
 ·exact ⟨c _ _ (by decide) h.t0,c _ _ (by decide) h.t1,c _ _ (by decide) h.t8,c _ _ (by decide) h.t9,c _ _ (by decide) h.t10,c _ _ (by decide) h.t11,c _ _ (by decide) h.t12,c _ _ (by decide) h.t13,c _ _ (by decide) h.t20,c _ _ (by decide) h.t21,c _ _ (by decide) h.t22,World.cell?_setCell_same _ _ _ h.t23,f⟩
structure Hdr (w:World)(hb tb cb cc rb rc zv:Nat)(kv tv:Value)(key text:ByteArray):Prop where
 h0:w.cell? ⟨hb,0,none⟩=some (.slice (some ⟨tb,0,none⟩) 2 2)
 h1:w.cell? ⟨hb,1,none⟩=some (.slice (some ⟨rb,0,none⟩) 2 rc)
 h2:w.cell? ⟨hb,2,none⟩=some (.slice (some ⟨zv,0,none⟩) 2 2)
 c0:w.cell? ⟨tb,0,none⟩=some (.int .i64 5)
 c3:w.cell? ⟨tb,3,none⟩=some (.slice (some ⟨cb,0,none⟩) 1 cc)
 c4:w.cell? ⟨tb,4,none⟩=some (.int .i64 3)
 c5:w.cell? ⟨tb,5,none⟩=some kv
 c6:w.cell? ⟨tb,6,none⟩=some tv
 k0:w.cell? ⟨cb,0,none⟩=some (.int .i64 1)
 kl:jQ w kv (Pro.letM key (key.size+1) 0)
 tl:jQ w tv (Pro.letM text (text.size+1) 0)
 kb:∀ g,kv.ownBlock=some g→g<w.heap.size
 tb':∀ g,tv.ownBlock=some g→g<w.heap.size
def Blk (hb tb cb rb:Nat)(kv tv:Value)(g:Nat):Prop:=g=hb∨g=tb∨g=cb∨g=rb∨kv.ownBlock=some g∨tv.ownBlock=some g
theorem Hdr.keep {P:Nat→Prop}{w w':World}{hb tb cb cc rb rc zv:Nat}{kv tv:Value}{key text:ByteArray}(h:Hdr w hb tb cb cc rb rc zv kv tv key text)(k:ze P w w')(hn:∀ g,Blk hb tb cb rb kv tv g→¬P g):Hdr w' hb tb cb cc rb rc zv kv tv key text:=
 have c1:=hn hb (.inl rfl)
 have c2:=hn tb (.inr (.inl rfl))
 have c3:=hn cb (.inr (.inr (.inl rfl)))
 ⟨zg k _ _ h.h0 c1,zg k _ _ h.h1 c1,zg k _ _ h.h2 c1,zg k _ _ h.c0 c2,zg k _ _ h.c3 c2,zg k _ _ h.c4 c2,zg k _ _ h.c5 c2,zg k _ _ h.c6 c2,zg k _ _ h.k0 c3,h.kl.keepP k (fun g hg=>hn g (.inr (.inr (.inr (.inr (.inl hg)))))),h.tl.keepP k (fun g hg=>hn g (.inr (.inr (.inr (.inr (.inr hg)))))),fun g hg=>Nat.lt_of_lt_of_le (h.kb g hg) k.size,fun g hg=>Nat.lt_of_lt_of_le (h.tb' g hg) k.size⟩
def ObjR (w w':World)(R:Nat→Prop)(zv sb:Nat)(keys key:ByteArray)(more:Int):Prop:=∃ b:Bool,(b=true↔Hits keys key)∧Hg w' zv (b ||decide (more=1)) false false (!b && decide (more = -1))∧Ready w' (fun g=>(R g∨w.heap.size≤g)∧g<w'.heap.size) sb keys∧∃ O:Nat→Prop,(∀ g,O g→(R g∧g≠11)∨g=zv)∧ze O w w'
theorem zew (hb tb cb cc rb rc zv q kb ub kc uc sb:Nat)(kv tv:Value)(keys key text:ByteArray)(more:Int)(R:Nat→Prop)(w:World)(hH:Hdr w hb tb cb cc rb rc zv kv tv key text)(hK:Hg w zv false false false false)(c2:w.cell? ⟨q,2,none⟩=some (.slice (some ⟨kb,0,none⟩) 1 kc))(c3:w.cell? ⟨q,3,none⟩=some (.slice (some ⟨ub,0,none⟩) 1 uc))(c4:w.cell? ⟨q,4,none⟩=some (.int .i64 more))(k0:w.cell? ⟨kb,0,none⟩=some (.pointer (some ⟨sb,0,none⟩)))(u0:w.cell? ⟨ub,0,none⟩=some (.int .i64 1))(hq:¬R q)(hu:¬R ub)(hz:¬R zv)(hzt:zv≠11)(hB:∀ g,Blk hb tb cb rb kv tv g→¬R g∧g≠zv)(hm:more = -2∨more = -1∨more=1)(h:Ready w R sb keys)(hs:Kc.textB key=true) :
  Calls Tryz.prog 100 #[.pointer (some ⟨hb,0,none⟩),.int .i64 0,.pointer (some ⟨q,0,none⟩)] w fun x w'=>x = .returned (.tuple #[])∧ObjR w w' R zv sb keys key more:=by
 have HC:=zc (zeM q kb ub kc uc sb keys key more R kv w c2 c3 c4 k0 u0 hq hu hm h hs hH.kl (fun g hg=>⟨(hB g (.inr (.inr (.inr (.inr (.inl hg)))))).1,hH.kb g hg⟩))
 have HK:=zc hK
 have HH:=zc hH
 obtain ⟨h0,h1,h2,n0,n3,n4,n5,n6,m0,_,_,_,_⟩:=hH
 clear hK c2 c3 c4 k0 u0 h
 obtain ⟨xa,xc,rfl⟩:=(zb HH).kl.slice
 go_enter Tryz.func100,Tryz.ntmps100
 go_wp2_with fail
 refine wp_loop_rounds 2 ?_
 rw [rounds_succ]
 go_wp2_with (go_at_call 141;refine (zb HC).mono ?_;rintro e w1 ⟨b,nv,ex,rfl,hb1,hc1,hR1,O,hO,hK1⟩;refine zb ?_)
 refine zc ?_
 have hzO:¬O zv:=fun e=>hz (hO _ e).1
 have hH1:=(zb HH).keep hK1 (fun g hg e=>(hB g hg).1 (hO _ e).1)
 have hKn:=(zb HK).keep hK1 hzO
 have s1:=hK1.size
 have HE:Hid (∀ (w2:World) (b13 b23:Bool),b13=(b ||decide (more=1))→b23=(!b && decide (more = -1))→ze (zt zv) w1 w2→Hg w2 zv b13 false false b23→ObjR w w2 R zv sb keys key more):=by
  rintro w2 b13 b23 rfl rfl k hi
  have s2:=k.size
  have hkz:zv<w.heap.size:=(zb HK).lt
  have htab:¬zt zv 11:=fun e=>hzt (show zv=_ from e.symm)
  refine ⟨b,hb1,hi,?_,fun g=>O g∨g=zv,fun g hg=>hg.imp_left (hO g),(hK1.mono (fun _ _ q=>.inl q)).laterO k (fun i _ q=>.inr q)⟩
  obtain ⟨hI,A,O9,D,pb,mb,F,W,cs,es,sv,h1,h2,h3,h4,h5,h6⟩:=hR1.keep k (fun g hg e=>by have e2:g=zv:=e;subst e2;exact hg.1.elim hz (fun q=>by omega)) htab
  exact ⟨hI,A,O9,D,pb,mb,F,W,cs,es,sv,h1,h2,h3,h4,h5,fun g hg=>⟨(h6 g hg).1,Nat.lt_of_lt_of_le (h6 g hg).2 s2⟩⟩
 have i2:=hH1.h2
 have t13:=hKn.t13
 have t23:=hKn.t23
 have f13:=hKn.fz 13
 have f23:=hKn.fz 23
 have HKn:=zc hKn
 clear hb1 hR1 hO hK1 hKn hH1 HC HK HH h0 h1 h2 n0 n3 n4 n5 n6 m0 hB hq hu
 rcases hc1 with ⟨hbm,rfl,g1,gc,rfl,hg1,hg2⟩ |⟨rfl,rfl,rfl,rfl⟩ |⟨rfl,rfl,rfl,rfl⟩
 ·go_wp2_with fail
  refine wp_loop_rounds 2 ?_
  rw [rounds_succ]
  go_wp2_with fail
  rw [rounds_succ]
  go_wp2_with fail
  rw [rounds_succ]
  go_wp2_with fail
  go_end0
  have hbb:(b ||decide (more=1))=true:=by rcases hbm with rfl |rfl<;>simp
  have hbc:(!b && decide (more = -1))=false:=by rcases hbm with rfl |rfl<;>simp
  exact ⟨rfl,zb HE _ true false hbb.symm hbc.symm ((ze.refl _ _).mine 13 _) ((zb HKn).set 13 (.inl ⟨rfl,rfl,rfl,rfl,rfl⟩))⟩
 ·go_wp2_with fail
  refine wp_loop_rounds 1 ?_
  rw [rounds_succ]
  go_wp2_with fail
  rw [rounds_succ]
  go_wp2_with fail
  go_end0
  exact ⟨rfl,zb HE _ false false (by simp) (by simp) (ze.refl _ _) (zb HKn)⟩
 ·go_wp2_with fail
  refine wp_loop_rounds 1 ?_
  rw [rounds_succ]
  go_wp2_with fail
  rw [rounds_succ]
  go_wp2_with fail
  go_end0
  exact ⟨rfl,zb HE _ false true (by simp) (by simp) ((ze.refl _ _).mine 23 _) ((zb HKn).set 23 (.inr (.inr (.inr ⟨rfl,rfl,rfl,rfl,rfl⟩))))⟩
def StrR (w w':World)(R1 R2:Nat→Prop)(zv:Nat)(pat text:ByteArray)(f:Nat):Prop:=∃ p1 p2:Bool,(p1=true↔Hits pat text)∧(p2=true↔f=0∨Hits (fmtS f) text)∧Hg w' zv true (!p1) (!p2) false∧∃ O:Nat→Prop,(∀ g,O g→R1 g∨R2 g∨g=zv)∧ze O w w'
theorem hstr_any (hb tb cb cc rb rc zv q sb:Nat)(kv tv fv:Value)(pat key text:ByteArray)(f:Nat)(R1 R2:Nat→Prop)(w:World)(hH:Hdr w hb tb cb cc rb rc zv kv tv key text)(hK:Hg w zv true false false false)(d0:w.cell? ⟨q,0,none⟩=some (.pointer (some ⟨sb,0,none⟩)))(d1:w.cell? ⟨q,1,none⟩=some fv)(h:Ready w R1 sb pat)(hf:(f=0∧fv = .pointer none)∨(1≤f∧∃ sb2,fv = .pointer (some ⟨sb2,0,none⟩)∧Ready w R2 sb2 (fmtS f)))(dj:∀ g,R1 g→¬R2 g)(hq:¬R1 q∧q≠zv)(hz:¬R1 zv∧¬R2 zv)(hzt:zv≠11)(hB:∀ g,Blk hb tb cb rb kv tv g→¬R1 g∧¬R2 g∧g≠zv)(hs:Kc.textB text=true) :
  Calls Tryz.prog 99 #[.pointer (some ⟨hb,0,none⟩),.int .i64 1,.pointer (some ⟨q,0,none⟩)] w fun x w'=>x = .returned (.tuple #[])∧StrR w w' R1 R2 zv pat text f:=by
 have HP:=zc (zeJ q sb pat text R1 tv w d0 h hs hH.tl (fun g hg=>⟨(hB g (.inr (.inr (.inr (.inr (.inr hg)))))).1,hH.tb' g hg⟩))
 have HK:=zc hK
 have HH:=zc hH
 obtain ⟨h0,h1,h2,n0,n3,n4,n5,n6,m0,_,_,_,_⟩:=hH
 obtain ⟨xa,xc,rfl⟩:=(zb HH).tl.slice
 clear hK h h1 n0 n3 n5 m0
 go_enter Tryz.func99,Tryz.ntmps99
 go_wp2_with (go_at_call 139;refine (zb HP).mono ?_;rintro e w1 ⟨p1,rfl,hp1,-,O,hO,hK1⟩;refine zb ?_)
 refine zc ?_
 have hzO:¬O zv:=fun e=>hz.1 (hO _ e).1
 have hH1:=(zb HH).keep hK1 (fun g hg e=>(hB g hg).1 (hO _ e).1)
 have hKn:=(zb HK).keep hK1 hzO
 have i2:=hH1.h2
 have t21:=hKn.t21
 have f21:=hKn.fz 21
 have HV:Hid (∀ V,ze (zt zv) w1 V→Hg V zv true (!p1) false false→Calls Tryz.prog 140 #[.pointer (some ⟨q,0,none⟩),.slice xa (Pro.letM text (text.size+1) 0).length xc] V fun x w'=>∃ p2:Bool,x = .returned (.bool p2)∧(p2=true↔f=0∨Hits (fmtS f) text)∧Hg w' zv true (!p1) false false∧∃ O:Nat→Prop,(∀ g,O g→R1 g∨R2 g∨g=zv)∧¬O hb∧ze O w w'):=by
  intro V hV hKV
  have hq1:=zg hV _ _ (zg hK1 _ _ d1 (fun e=>hq.1 (hO _ e).1)) hq.2
  have hnb:=hB hb (.inl rfl)
  have hOV:ze (fun g=>O g∨g=zv) w V:=(hK1.mono (fun _ _ q=>.inl q)).laterO hV (fun i _ q=>.inr q)
  rcases hf with ⟨rfl,rfl⟩ |⟨f1,sb2,rfl,hR2⟩
  ·refine (zeL q _ V hq1 ⟨_,_,_,rfl⟩).mono ?_
   rintro x w' ⟨rfl,rfl⟩
   exact ⟨true,rfl,by simp,hKV,fun g=>O g∨g=zv,fun g hg=>hg.elim (fun e=>.inl (hO g e).1) (fun e=>.inr (.inr e)),fun e=>e.elim (fun e=>hnb.1 (hO _ e).1) hnb.2.2,hOV⟩
  ·have hR:=hR2.keep hOV (fun g hg e=>e.elim (fun e=>dj g (hO g e).1 hg) (fun e=>by subst e;exact hz.2 hg)) (fun e=>e.elim (fun e=>(hO _ e).2 rfl) (fun e=>hzt e.symm))
   have hHV:=hH1.keep hV (fun g hg e=>(hB g hg).2.2 e)
   refine (zeK q sb2 (fmtS f) text R2 _ V hq1 hR hs hHV.tl (fun g hg=>⟨(hB g (.inr (.inr (.inr (.inr (.inr hg)))))).2.1,hHV.tb' g hg⟩)).mono ?_
   rintro x w' ⟨b,rfl,hb,-,O2,hO2,hK2⟩
   refine ⟨b,rfl,?_,hKV.keep hK2 (fun e=>hz.2 (hO2 _ e).1),fun g=>O g∨g=zv∨O2 g,fun g hg=>?_,fun e=>?_,(hOV.mono (fun _ _ q=>q.elim .inl (fun e=>.inr (.inl e)))).laterO hK2 (fun i _ q=>.inr (.inr q))⟩
   ·rw [hb]
    exact ⟨.inr,fun e=>e.resolve_left (by omega)⟩
   ·rcases hg with e |e |e
    ·exact .inl (hO g e).1
    ·exact .inr (.inr e)
    ·exact .inr (.inl (hO2 g e).1)
   ·rcases e with e |e |e
    ·exact hnb.1 (hO _ e).1
    ·exact hnb.2.2 e
    ·exact hnb.2.1 (hO2 _ e).1
 have HP1:=zc hp1
 have HKn:=zc hKn
 have HHh:=zc (zb HH).h2
 clear hp1 hO hK1 hKn hH1 HP HK HH h0 h2 n4 n6 hB d0 d1 hf dj
 cases p1
 ·have HV1:=zc (zb HV (w1.setCell ⟨zv,21,none⟩ (.bool true)) ((ze.refl (zt zv) w1).mine 21 _) ((zb HKn).set 21 (.inr (.inl ⟨rfl,rfl,rfl,rfl,rfl⟩))))
  go_wp2_with (go_at_call 140;refine (zb HV1).mono ?_;rintro e w2 ⟨p2,rfl,hp2,hKn2,O2,hO2,hnb2,hK2⟩;refine zb ?_)
  refine zc ?_
  have j2:=zg hK2 _ _ (zb HHh) hnb2
  have t22:=hKn2.t22
  have f22:=hKn2.fz 22
  have HE:Hid (Hg w2 zv true true false false∧_∧_):=And.intro hKn2 (And.intro hp2 (And.intro hO2 hK2))
  clear hKn2 hp2 hO2 hK2 i2
  cases p2
  ·go_wp2_with fail
   go_end0
   obtain ⟨e1,e2,e3,e4⟩:=zb HE
   exact ⟨rfl,false,false,by simpa using zb HP1,by simpa using e2,e1.set 22 (.inr (.inr (.inl ⟨rfl,rfl,rfl,rfl,rfl⟩))),fun g=>O2 g∨g=zv,fun g hg=>hg.elim (e3 g) (fun e=>.inr (.inr e)),(e4.mono (fun _ _ q=>.inl q)).laterO ((ze.refl (zt zv) _).mine 22 _) (fun i _ q=>.inr q)⟩
  ·go_wp2_with fail
   go_end0
   obtain ⟨e1,e2,e3,e4⟩:=zb HE
   exact ⟨rfl,false,true,by simpa using zb HP1,by simpa using e2,e1,O2,e3,e4⟩
 ·go_wp2_with (go_at_call 140;refine (zb HV _ (ze.refl _ _) (zb HKn)).mono ?_;rintro e w2 ⟨p2,rfl,hp2,hKn2,O2,hO2,hnb2,hK2⟩;refine zb ?_)
  refine zc ?_
  have j2:=zg hK2 _ _ (zb HHh) hnb2
  have t22:=hKn2.t22
  have f22:=hKn2.fz 22
  have HE:Hid (Hg w2 zv true false false false∧_∧_):=And.intro hKn2 (And.intro hp2 (And.intro hO2 hK2))
  clear hKn2 hp2 hO2 hK2 i2
  cases p2
  ·go_wp2_with fail
   go_end0
   obtain ⟨e1,e2,e3,e4⟩:=zb HE
   exact ⟨rfl,true,false,by simpa using zb HP1,by simpa using e2,e1.set 22 (.inr (.inr (.inl ⟨rfl,rfl,rfl,rfl,rfl⟩))),fun g=>O2 g∨g=zv,fun g hg=>hg.elim (e3 g) (fun e=>.inr (.inr e)),(e4.mono (fun _ _ q=>.inl q)).laterO ((ze.refl (zt zv) _).mine 22 _) (fun i _ q=>.inr q)⟩
  ·go_wp2_with fail
   go_end0
   obtain ⟨e1,e2,e3,e4⟩:=zb HE
   exact ⟨rfl,true,true,by simpa using zb HP1,by simpa using e2,e1,O2,e3,e4⟩
end
end Go.Proofs.YtcgleficedipkaaGreatDoor
