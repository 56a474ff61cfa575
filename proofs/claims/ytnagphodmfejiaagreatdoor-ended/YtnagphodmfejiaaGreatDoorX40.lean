/- The statement's own functions over scripts: Compile of a right pattern. -/
import Derived.Test.YtnagphodmfejiaaGreatDoorX39
import Derived.KernelRfl
namespace Go.Proofs.YtnagphodmfejiaaGreatDoor
section
open Go.RowKit
open Sm (Tree)
set_option maxHeartbeats 4000000
set_option maxRecDepth 1000000
theorem JM {S:Nat→Prop}{wi w:World}{ps:List (Nat×Nat)}{ls:List (Value×Int)}(kd p f n:Int)(s:ByteArray)(lv nv sv:Value)(t:Tree)(v:Int)(ts:List Tok)(a:Nat→Addr)(hLaw:kz wi w S ps ls)(hS:Start wi a)(v0:0≤v)(hv:v<300)(ht:zaV t)(hr:W5 s v ts)(hp:∀ (w:World) (a:Nat→Addr),Start w a→K8 s t v w)(hT:Eqv.kw (Eqv.xZ 22) ts t.kids)(hB:∀ x∈ts,Ref.jz x)(hl:ts.length≤1000)(h5:t.kind=5)(hn:ps.length≤5864062014805) :
  Calls Tryz.prog 10 #[.pointer (some ⟨wi.heap.size,0,none⟩),opV kd p f n s lv nv sv] w fun e w'=>e = .returned (.bool true)∧∃ S' ps',kz wi w' S' ps' ls∧ps'.length=ps.length+1:=by
 obtain ⟨i0,hi0,hz0,hz1,hz2⟩:=info_parts Tryz.infoPat
 have hold:zf (fun _=>False) wi w:=by obtain ⟨⟨_,_,_,h⟩,_⟩:=hLaw;exact h.old
 have HC:Hid (∀ w1,zf (fun _=>False) w w1→Calls Tryz.prog 16 #[.string s] w1 fun x w'=>∃ g,x = .returned (.tuple #[.pointer (some ⟨g,0,none⟩),.int .i64 0,.int .i64 0])∧w1.heap.size≤g∧kn w' w1.heap.size g t v∧zf (fun _=>False) w1 w'):=fun w1 h1=>WI s w1 t v hv ht (hp w1 a (hS.keep (hold.trans h1)))
 have HF:Hid (∀ (w1 w2:World) (z gx gy:Nat) (tv:Value),z≤w1.heap.size→z≤gx→w1.heap.size≤gy→kn w1 z gx t v→zf (fun _=>False) w1 w2→w2.cell? ⟨gy,1,none⟩=some (.int .i64 (v+1))→w2.cell? ⟨gy,0,none⟩=some tv→xH w2 w1.heap.size tv ts→Fresh2 w2 z gx gy):=fun w1 w2 z gx gy tv q1 q2 q3 q4 q5 q6 q7 q8=>⟨Nat.le_trans q1 q5.size,t,ts,v,tv,q2,by omega,q4.keep q5 (fun _ _ f=>f) q2,q6,q7,q8.base q1,hT,hB,hl,h5,v0,hv⟩
 have HR:=ze hr
 have HLaw:=ze hLaw
 clear hp hr hS ht hv hold hLaw hT hB hl h5 v0
 unfold opV
 go_enter Tryz.func10,Tryz.ntmps10
 go_wp2_with (first
  |(go_at_call 16;refine (zb HC _ ((zf.refl _ _).alloc _)).mono ?_;rintro e w1 ⟨gx,rfl,hx1,hx3,hO1⟩;have q4:=zg hO1 ⟨w.heap.size,4,none⟩ _ (zo w _ rfl _ _ 4 _ rfl) (fun f=>f);have X3:=ze hx3;clear hx3)
  |(go_at_call 17;refine (zb HR w1).mono ?_;rintro e w2 ⟨gy,rfl,hO2,hy1,hy2,tv,hy3,hy4⟩;have HG2:Hid (zf (fun _=>False) w w2):=(((zf.refl (fun _=>False) w).alloc _).trans hO1).trans hO2;have HF2:Hid (Fresh2 w2 w.heap.size gx gy):=zb HF w1 w2 _ gx gy tv (by have:=hO1.size;simp at this;omega) (by simp at hx1;omega) hy1 ((zb X3).mono (by simp)) hO2 hy2 hy3 hy4;obtain ⟨⟨pv,iv,mv,hq⟩,hql⟩:=(zb HLaw).guard (zb HG2);have HQ:=ze hq;have HQL:=ze hql;obtain ⟨pa,pn,pc,rfl⟩:=zr hq.rp;have d0:=hq.c0;clear hq hql hy2 hy3 hy4 X3)
  |(at_builtin;refine zb ?_))
 refine ze ?_
 have hlt:=(zb HQ).lt
 refine wV _ rfl _ _ 32 rfl (wi.heap.size+1) 46 i0 (.agg #[.pointer none,.pointer none]) 2 16 Tryz.underlying32 hi0 hz0 hz1 hz2 rfl (by decide) _ ps.length (jr ps) rfl (World.ownsRow.alloc (zb HQ).rp _) _ 1 1 [.pointer (some ⟨gx,0,none⟩),.pointer (some ⟨gy,0,none⟩)] rfl rfl (K0 _ w2.heap.size rfl _ _ _) (fun x hx=>by simp at hx;rcases hx with rfl |rfl<;>rfl) (by unfold maxLen;omega) (by omega) (by simp;omega) (by decide) ?_
 intro v2 wa hown2 hgr2
 have k2:zf (fun i=>(Value.slice pa pn pc).ownBlock=some i) w2 wa:=by
  rcases hgr2 with ⟨g,h1,_,h2⟩ |⟨h2,_⟩
  ·exact ((zf.refl _ _).alloc _).grown h2 (fun k e=>.inl (by cases e;exact h1))
  ·exact ((zf.refl _ _).alloc _).grown h2 (fun k e=>by cases e)
 have hb2:∀ i,v2.ownBlock=some i→(Value.slice pa pn pc).ownBlock=some i∨w2.heap.size≤i:=by
  rcases hgr2 with ⟨g,h1,h2,_⟩ |⟨_,h2⟩
  ·intro i e;rw [h2] at e;cases e;exact .inl h1
  ·intro i e;have:=h2 i e;simp at this;exact .inr (by omega)
 have HRb:Hid (jK wi (wa.setCell ⟨wi.heap.size,0,none⟩ v2) (fun i=>S i∨(w.heap.size≤i∧i<w2.heap.size)) (ps++[(gx,gy)]) v2 iv mv (ls.map (·.1)) (ls.map (·.2))):=(zb HQ).setP k2 (by rw [List.length_append,JL];exact hown2) hb2 (fun q hq=>by
  rcases List.mem_append.1 hq with hq |hq
  ·exact (zb HQ).pats q hq
  ·simp only [List.mem_singleton] at hq
   subst hq
   exact (zb HF2).both (fun k h1 h2=>.inr ⟨h1,h2⟩))
 have hnb:¬(Value.slice pa pn pc).ownBlock=some wi.heap.size:=fun e=>by have:=(zh (zb HQ).rp _ e).1;omega
 have d0':=zg k2 _ _ d0 hnb
 have f0:=zw k2 _ hlt ((zb HQ).fz 0) hnb
 have kb:zf (fun i=>(Value.slice pa pn pc).ownBlock=some i∨i=wi.heap.size) w2 (wa.setCell ⟨wi.heap.size,0,none⟩ v2):=(k2.mono (fun _ _ e=>.inl e)).setCell (p:=⟨wi.heap.size,0,none⟩) (.inl (.inr rfl)) _
 have HLb:Hid (∀ l∈ls,ListM (wa.setCell ⟨wi.heap.size,0,none⟩ v2) (fun i=>S i∨(w.heap.size≤i∧i<w2.heap.size)) l.1 l.2):=fun l hl=>(zb HQL l hl).keep kb (fun i e=>e.elim (fun e=>(zb HQ).sp i e) (fun e=>by subst e;exact (zb HQ).nb))
 obtain ⟨va,vn,vc,rfl⟩:=zr hown2
 clear hown2 hgr2 k2 hb2 kb hnb d0
 go_wp2_with fail
 go_ret
 exact ⟨rfl,_,ps++[(gx,gy)],⟨⟨_,iv,mv,zb HRb⟩,zb HLb⟩,by simp⟩
theorem JN {S:Nat→Prop}{wi w:World}{ps:List (Nat×Nat)}{ls:List (Value×Int)}(kd p f n:Int)(s:ByteArray)(lv nv sv:Value)(a:Nat→Addr)(hLaw:kz wi w S ps ls)(hS:Start wi a)(hn:ps.length≤5864062014805) :
  Calls Tryz.prog 10 #[.pointer (some ⟨wi.heap.size,0,none⟩),opV kd p f n s lv nv sv] w fun e w'=>e = .returned (.bool true)∧∃ S' ps',kz wi w' S' ps' ls∧ps'.length≤ps.length+1:=by
 have hold:zf (fun _=>False) wi w:=by obtain ⟨⟨_,_,_,h⟩,_⟩:=hLaw;exact h.old
 rcases za5 s with ⟨k,at',k1,k2,hr,hp⟩ |⟨v,t,ts,v0,hv,ht,hr,hp,hT,hB,hl,h5⟩
 ·refine (Ve wi.heap.size kd p f n s lv nv sv k at' w a (hS.keep hold) k1 k2 hr hp).mono ?_
  rintro e w' ⟨rfl,hO⟩
  exact ⟨rfl,S,ps,hLaw.keep0 hO,by omega⟩
 ·refine (JM kd p f n s lv nv sv t v ts a hLaw hS v0 hv ht hr hp hT hB hl h5 hn).mono ?_
  rintro e w' ⟨rfl,S',ps',h1,h2⟩
  exact ⟨rfl,S',ps',h1,by omega⟩
theorem wW.before {wi w w1 w':World}(h:wi.heap.size<w.heap.size∧(∃ v,w.cell? ⟨wi.heap.size,0,none⟩=some v)∧(∃ v,w.cell? ⟨wi.heap.size,2,none⟩=some v)∧∃ v,w.cell? ⟨wi.heap.size,3,none⟩=some v)(k:zf (fun _=>False) w w1)(f:wW wi w1 w'):wW wi w w':=by
 obtain ⟨hlt,⟨v0,e0⟩,⟨v2,e2⟩,⟨v3,e3⟩⟩:=h
 obtain ⟨h1,iv,mv,h2,h3,h4⟩:=f
 have q0:=zg k _ _ e0 (fun f=>f)
 have q2:=zg k _ _ e2 (fun f=>f)
 have q3:=zg k _ _ e3 (fun f=>f)
 rw [q2] at h2
 rw [q3] at h3
 cases h2
 cases h3
 exact ⟨by rw [h1,q0,e0],_,_,e2,e3,(k.mono (fun _ _ f=>f.elim)).trans h4⟩
theorem Jv:∀ (js:List Nat)(lo n:Nat),js.Pairwise (· < ·)→(∀ j∈js,lo≤j∧j≤n)→js.length≤n+1-lo
 | [],_,_,_,_=>Nat.zero_le _
 |j :: r,lo,n,h,hb=>by
  have h1:=List.pairwise_cons.1 h
  have h2:=hb j (by simp)
  have h3:=Jv r (j+1) n h1.2 (fun x hx=>⟨h1.1 x hx,(hb x (List.mem_cons_of_mem _ hx)).2⟩)
  simp only [List.length_cons]
  omega
theorem wU.len {s:ByteArray}{i:Int}{X:List (Int×Int)→Nat→Nat→Prop}{k a:Int}{js:List Nat}(h:wU s i X k a js):js.length≤900:=by
 rcases h with ⟨_,_,_,rfl⟩ |⟨_,_,_,_,rfl⟩ |⟨_,_,_,_,_,rfl⟩ |⟨n,_,h1,_,_,_,_,h4⟩
 ·simp
 ·simp
 ·simp
 ·have:=Jv js 0 _ h4.1 (fun j hj=>⟨Nat.zero_le _,((h4.2 j).1 hj).1⟩)
  have:=Ref.YF s
  omega
theorem za7 {S:Nat→Prop}{w:World}{gx gy:Nat}(b:Nat)(p f n:Int)(s:ByteArray)(lv nv sv:Value)(h:qu w S gx gy) :
  Calls Tryz.prog 14 #[.pointer (some ⟨b,0,none⟩),.agg #[.pointer (some ⟨gx,0,none⟩),.pointer (some ⟨gy,0,none⟩)],opV 2 p f n s lv nv sv] w fun e w'=>e = .returned (.bool true)∧zf (fun _=>False) w w':=by
 obtain ⟨base,t,ts,v,hC,hP,hz,_,_,v0,v1,_⟩:=h.use
 have hm:min (v+1) 301=v+1:=by omega
 have HZ:Hid (∀ W,zf (fun _=>False) (w.alloc (.cells #[.pointer (some ⟨gx,0,none⟩),.pointer (some ⟨gy,0,none⟩)] 46)) W→Calls Tryz.prog 8 #[.pointer (some ⟨gx,0,none⟩)] W fun x w'=>x = .returned (.int .i64 (v+1))∧zf (fun _=>False) w w'∧w'.cell? ⟨w.heap.size,0,none⟩=some (.pointer (some ⟨gx,0,none⟩))∧w'.cell? ⟨w.heap.size,1,none⟩=some (.pointer (some ⟨gy,0,none⟩))∧w'.cell? ⟨gy,1,none⟩=some (.int .i64 (v+1))):=fun W hW=>by
  have hA:=((zf.refl (fun _=>False) w).alloc (.cells #[.pointer (some ⟨gx,0,none⟩),.pointer (some ⟨gy,0,none⟩)] 46)).trans hW
  refine (WJ gx _ W (zg hA _ _ hC.size (fun f=>f))).mono ?_
  rintro e w' ⟨rfl,hO⟩
  rw [hm]
  exact ⟨rfl,hA.trans hO,zg (hW.trans hO) _ _ (zo w _ rfl _ _ 0 _ rfl) (fun f=>f),zg (hW.trans hO) _ _ (zo w _ rfl _ _ 1 _ rfl) (fun f=>f),zg (hA.trans hO) _ _ hz (fun f=>f)⟩
 clear h hC hP hm
 unfold opV
 go_enter Tryz.func14,Tryz.ntmps14
 go_wp2_with fail
 go_region_held3 (fun w'=>w'.cell? ⟨w.heap.size,0,none⟩=some (.pointer (some ⟨gx,0,none⟩))∧w'.cell? ⟨w.heap.size,1,none⟩=some (.pointer (some ⟨gy,0,none⟩))∧w'.cell? ⟨gy,1,none⟩=some (.int .i64 (v+1))) (go_keep)
  (first |(go_at_call 8;refine (zb HZ _ (((zf.refl _ _).alloc _).drewN _)).mono ?_;rintro e w2 ⟨rfl,hO2,z1,z2,z3⟩))
 go_wp2_with fail
 go_ret
 exact ⟨rfl,hO2⟩
theorem za8 {S:Nat→Prop}{wi w:World}{ps:List (Nat×Nat)}{ls:List (Value×Int)}{gx gy:Nat}(p f n:Int)(s:ByteArray)(lv nv sv:Value)(ad:Nat→Addr)(hLaw:kz wi w S ps ls)(hS:Start wi ad)(h:qu w S gx gy)(hn:ls.length+4≤5864062014805) :
  Calls Tryz.prog 14 #[.pointer (some ⟨wi.heap.size,0,none⟩),.agg #[.pointer (some ⟨gx,0,none⟩),.pointer (some ⟨gy,0,none⟩)],opV 3 p f n s lv nv sv] w fun e w'=>e = .returned (.bool true)∧(∃ S' ls',kz wi w' S' ps ls'∧ls'.length=ls.length+4)∧wW wi w w':=by
 have hold:zf (fun _=>False) wi w:=by obtain ⟨⟨_,_,_,h⟩,_⟩:=hLaw;exact h.old
 obtain ⟨base,t,ts,v,hC,hP,_,hT,h5,_,_,hb⟩:=h.use
 obtain ⟨k,a,js,ho⟩:=wU.ex s n (fun tx n=>Ref.altR tx 67 t.kids n)
 have hjl:=ho.len
 have HE:Hid (∀ W,zf (fun _=>False) w W→Calls Tryz.prog 24 #[.pointer (some ⟨gx,0,none⟩),.string s,.int .i64 n] W (AnsE k a js W)):=fun W hW=>zcZ ho (hS.keep (hold.trans hW)) (hC.keep hW (fun _ _ f=>f) hb) hT h5
 have HF:Hid (∀ W,zf (fun _=>False) w W→Calls Tryz.prog 25 #[.pointer (some ⟨gy,0,none⟩),.string s,.int .i64 n] W (AnsE k a js W)):=fun W hW=>zcX ho (hP.keep hW)
 have HLaw:=ze hLaw
 clear h hC hP hT ho hLaw hS hold
 unfold opV
 go_enter Tryz.func14,Tryz.ntmps14
 go_wp2_with (first
  |(go_at_call 24;refine (zb HE _ (by first |exact ((zf.refl _ _).alloc _).alloc _ |exact (zf.refl _ _).alloc _ |exact zf.refl _ _)).mono ?_;rintro e w1 ⟨s1,rfl,hr1,hO1⟩;obtain ⟨a1,n1,c1,rfl⟩:=zr hr1;have q0:=zg hO1 ⟨w.heap.size,1,none⟩ _ (zg ((zf.refl (fun _=>False) _).alloc _) _ _ (zo w _ rfl _ _ 1 _ rfl) (fun f=>f)) (fun f=>f);have q3:=zg hO1 ⟨w.heap.size+1,3,none⟩ _ (zo (w.alloc _) _ (by simp) _ _ 3 _ rfl) (fun f=>f);have q4:=zg hO1 ⟨w.heap.size+1,4,none⟩ _ (zo (w.alloc _) _ (by simp) _ _ 4 _ rfl) (fun f=>f);have HR1:=ze hr1;have HO1:=ze hO1;clear hr1 hO1)
  |(go_at_call 25;refine (zb HF _ (by first |exact (((zf.refl _ _).alloc _).alloc _).trans (zb HO1) |exact ((zf.refl _ _).alloc _).trans (zb HO1) |exact (zb HO1))).mono ?_;rintro e w2 ⟨s2,rfl,hr2,hO2⟩;obtain ⟨a2,n2,c2,rfl⟩:=zr hr2;have HR2:=ze hr2;have HR1':=ze (zp (zb HR1) hO2 (fun _ _ f=>f));have HO2:=ze ((zb HO1).trans hO2);clear hr2 hO2 HR1 HO1)
  |(go_at_call 26;refine (Vc (q9.of (zb HR1')) (q9.of (zb HR2)) (by omega)).mono ?_;rintro e w3 ⟨rfl,hO3⟩;have HR3:=ze (zp (zb HR1') hO3 (fun _ _ f=>f));have HO3:=ze ((zb HO2).trans hO3);clear hO3 HR1' HR2 HO2)
  |(go_at_call 7;refine (KC (((zb HLaw).keep0 (by first |exact ((zf.refl _ _).alloc _).alloc _ |exact (zf.refl _ _).alloc _ |exact zf.refl _ _)).keep0 (zb HO3)) (by omega)).mono ?_;rintro e w4 ⟨rfl,hO4⟩;have HR4:=ze (zp (zb HR3) hO4 (fun _ _ f=>f));have HO4:=ze ((zb HO3).trans hO4);clear hO4 HR3 HO3)
  |(go_at_call 27;refine (Vd ((zb HLaw).keep0 (by first |exact ((zf.refl _ _).alloc _).alloc _ |exact (zf.refl _ _).alloc _ |exact zf.refl _ _)) (zb HO4) (zb HR4) hjl hn).mono ?_;rintro e w5 ⟨rfl,⟨S',ls',hL5,hl5,_⟩,hF5⟩;have HL5:=ze hL5;have HF5:=ze hF5;clear hL5 hF5 HR4 HO4))
 go_ret
 exact ⟨rfl,⟨S',ls',zb HL5,hl5⟩,wW.before (by obtain ⟨⟨_,_,_,h⟩,_⟩:=zb HLaw;exact ⟨h.lt,⟨_,h.c0⟩,⟨_,h.c2⟩,⟨_,h.c3⟩⟩) (by first |exact ((zf.refl _ _).alloc _).alloc _ |exact (zf.refl _ _).alloc _ |exact zf.refl _ _) (zb HF5)⟩
def Xl (c:Int)(n:Nat):Nat:=(if c<0 then (-(c+1)) % (n:Int) else c % (n:Int)).toNat
theorem W6 (c:Int){n:Nat}(hn:0<n):Xl c n<n:=by
 unfold Xl
 have b0:=Int.emod_nonneg (-(c+1)) (show (n:Int)≠0 by omega)
 have b1:=Int.emod_lt_of_pos (-(c+1)) (show (0:Int)<n by omega)
 have b2:=Int.emod_nonneg c (show (n:Int)≠0 by omega)
 have b3:=Int.emod_lt_of_pos c (show (0:Int)<n by omega)
 split<;>omega
theorem pick_any (c:Int)(n:Nat)(w:World)(h0:-9223372036854775808≤c)(h1:c<9223372036854775808)(hn:0<n)(hn2:n<9223372036854775808) :
  Calls Tryz.prog 12 #[.int .i64 c,.int .i64 (n:Nat)] w fun e w'=>e = .returned (.int .i64 (Xl c n:Nat))∧w'=w:=by
 by_cases hc:c<0
 ·go_enter Tryz.func12,Tryz.ntmps12
  go_wp2_with fail
  go_ret
  have e:-(c+1).tmod (n:Int)=(-(c+1)) % (n:Int):=by rw [←Int.neg_tmod,Int.tmod_eq_emod_of_nonneg (by omega)]
  have b0:=Int.emod_nonneg (-(c+1)) (show (n:Int)≠0 by omega)
  have b1:=Int.emod_lt_of_pos (-(c+1)) (show (0:Int)<n by omega)
  refine ⟨?_,rfl⟩
  rw [show ((Xl c n:Nat):Int) = -(c+1).tmod (n:Int) by unfold Xl;rw [if_pos (by omega)];omega]
  rfl
 ·go_enter Tryz.func12,Tryz.ntmps12
  go_wp2_with fail
  go_ret
  have b0:=Int.emod_nonneg c (show (n:Int)≠0 by omega)
  have b1:=Int.emod_lt_of_pos c (show (0:Int)<n by omega)
  refine ⟨?_,rfl⟩
  rw [show ((Xl c n:Nat):Int)=c % (n:Int) by unfold Xl;rw [if_neg (by omega)];omega]
  rfl
theorem W7 {w:World}{base:Nat}{pv:Value}{ps:List (Nat×Nat)}(h:w.ownsRow base 46 2 pv ps.length (jr ps)):∃ a c,pv = .slice a ps.length c∧∀ (j:Nat) q,ps[j]?=some q→∃ g,a=some ⟨g,0,none⟩∧w.cell? ⟨g,j*2,none⟩=some (.pointer (some ⟨q.1,0,none⟩))∧w.cell? ⟨g,j*2+1,none⟩=some (.pointer (some ⟨q.2,0,none⟩)):=by
 have hx:=h.1
 rcases h.2 with ⟨rfl,h0⟩ |⟨g,cap,cur,rfl,hbg,hg,hnc,hcm,hcs,htake⟩
 ·exact ⟨none,0,by rw [h0],fun j q hj=>by rw [List.eq_nil_of_length_eq_zero h0] at hj;simp at hj⟩
 ·refine ⟨_,cap,rfl,fun j q hj=>⟨g,rfl,?_,?_⟩⟩
  ·exact (h.cellAt _ (by have:=(List.getElem?_eq_some_iff.1 hj).1;omega)).trans (ZI ps j q hj).1
  ·exact (h.cellAt _ (by have:=(List.getElem?_eq_some_iff.1 hj).1;omega)).trans (ZI ps j q hj).2
def Z9 (wi:World)(np nl:Nat)(e:Ending)(w':World):Prop:=e = .returned (.bool true)∧∃ S' ps' ls',kz wi w' S' ps' ls'∧ps'.length≤np∧ls'.length≤nl
theorem zc1 {S:Nat→Prop}{wi w:World}{ps:List (Nat×Nat)}{ls:List (Value×Int)}(p f n:Int)(s:ByteArray)(lv nv sv:Value)(a:Nat→Addr)(hLaw:kz wi w S ps ls)(hS:Start wi a)(hn:ps.length≤5864062014805) :
  Calls Tryz.prog 6 #[.pointer (some ⟨wi.heap.size,0,none⟩),opV 1 p f n s lv nv sv] w (Z9 wi (ps.length+1) (ls.length+4)):=by
 have HC:Hid (∀ w1,zf (fun _=>False) w w1→Calls Tryz.prog 10 #[.pointer (some ⟨wi.heap.size,0,none⟩),opV 1 p f n s lv nv sv] w1 fun e w'=>e = .returned (.bool true)∧∃ S' ps',kz wi w' S' ps' ls∧ps'.length≤ps.length+1):=fun w1 h1=>JN 1 p f n s lv nv sv a (hLaw.keep0 h1) hS hn
 clear hS hLaw
 unfold opV at *
 unfold Z9
 go_enter Tryz.func6,Tryz.ntmps6
 go_wp2_with (go_at_call 10;refine (zb HC _ ((zf.refl _ _).alloc _)).mono ?_;rintro e w1 ⟨rfl,S',ps',h1,h2⟩;have H1:=ze h1;clear h1)
 go_ret
 exact ⟨rfl,S',ps',ls,zb H1,h2,by omega⟩
theorem zc2 {S:Nat→Prop}{wi w:World}{ps:List (Nat×Nat)}{ls:List (Value×Int)}(kd p f n:Int)(s:ByteArray)(lv nv sv:Value)(a:Nat→Addr)(hLaw:kz wi w S ps ls)(hS:Start wi a)(hk:kd=2∨kd=3)(p0:-9223372036854775808≤p)(p1:p<9223372036854775808)(hn:ps.length≤5864062014805)(hm:ls.length+4≤5864062014805) :
  Calls Tryz.prog 6 #[.pointer (some ⟨wi.heap.size,0,none⟩),opV kd p f n s lv nv sv] w (Z9 wi (ps.length+1) (ls.length+4)):=by
 obtain ⟨pv,iv,mv,hR⟩:=hLaw.1
 have hpats:=hR.pats
 have HA:Hid (∀ W gx gy,zf (fun _=>False) w W→qu w S gx gy→Calls Tryz.prog 14 #[.pointer (some ⟨wi.heap.size,0,none⟩),.agg #[.pointer (some ⟨gx,0,none⟩),.pointer (some ⟨gy,0,none⟩)],opV kd p f n s lv nv sv] W fun e w'=>Z9 wi (ps.length+1) (ls.length+4) e w'∧wW wi W w'):=fun W gx gy hW hP=>by
  rcases hk with rfl |rfl
  ·refine (za7 wi.heap.size p f n s lv nv sv (hP.keep hW (fun _ q=>q.elim))).mono ?_
   rintro e w' ⟨rfl,hO⟩
   exact ⟨⟨rfl,S,ps,ls,(hLaw.keep0 hW).keep0 hO,by omega,by omega⟩,by
    have h0:=hR.keep0 hW
    exact ⟨(zg hO _ _ h0.c0 (fun f=>f)).trans h0.c0.symm,_,_,h0.c2,h0.c3,hO.mono (fun _ _ f=>f.elim)⟩⟩
  ·refine (za8 p f n s lv nv sv a (hLaw.keep0 hW) hS (hP.keep hW (fun _ q=>q.elim)) hm).mono ?_
   rintro e w' ⟨rfl,⟨S',ls',h1,h2⟩,hf⟩
   exact ⟨⟨rfl,S',ps,ls',h1,by omega,by omega⟩,hf⟩
 obtain ⟨pa,pc,rfl,hcell⟩:=W7 hR.rp
 have c0:=hR.c0
 have hlt:=hR.lt
 have HP:Hid (∀ j,j<ps.length→∃ g gx gy,pa=some ⟨g,0,none⟩∧w.cell? ⟨g,j*2,none⟩=some (.pointer (some ⟨gx,0,none⟩))∧w.cell? ⟨g,j*2+1,none⟩=some (.pointer (some ⟨gy,0,none⟩))∧qu w S gx gy∧wi.heap.size<g):=fun j hj=>by
  obtain ⟨g,h1,h2,h3⟩:=hcell j ps[j] (List.getElem?_eq_getElem hj)
  exact ⟨g,_,_,h1,h2,h3,hpats _ (List.getElem_mem hj),(zh hR.rp g (by rw [h1];rfl)).1⟩
 have HFR:Hid (∀ (W w2:World) (q:Addr) (u:Value),zf (fun _=>False) w W→wW wi W w2→W.cell? q=some u→q.block≠wi.heap.size→(q.block<w.heap.size→(Value.slice pa ps.length pc).ownBlock=some q.block)→w2.cell? q=some u):=fun W w2 q u hW hf hq hb hp=>by
  obtain ⟨_,iv',mv',h2,h3,k⟩:=hf
  have e2:=zg hW _ _ hR.c2 (fun f=>f)
  have e3:=zg hW _ _ hR.c3 (fun f=>f)
  rw [e2] at h2
  rw [e3] at h3
  cases h2
  cases h3
  refine zg k _ _ hq (fun e=>?_)
  rcases e with e |e |e
  ·exact hb e
  ·exact jl hR.ri hR.rp (by decide) _ e (hp (zh hR.ri _ e).2)
  ·exact jl hR.rm hR.rp (by decide) _ e (hp (zh hR.rm _ e).2)
 have HLaw:=ze hLaw
 clear hS hLaw hR hpats hcell
 have hk1:(kd == 1)=false:=by rcases hk with rfl |rfl<;>rfl
 have hk7:(kd == 7)=false:=by rcases hk with rfl |rfl<;>rfl
 have hk5:(kd == 5)=false:=by rcases hk with rfl |rfl<;>rfl
 have hk6:(kd == 6)=false:=by rcases hk with rfl |rfl<;>rfl
 clear hk
 unfold opV at *
 by_cases h0:ps.length=0
 ·unfold Z9
  rw [h0] at c0
  clear HA HP
  go_enter Tryz.func6,Tryz.ntmps6
  go_wp2_with fail
  go_ret
  exact ⟨rfl,S,ps,ls,(zb HLaw).keep0 ((zf.refl _ _).alloc _),by omega,by omega⟩
 ·obtain ⟨g,gx,gy,rfl,q1,q2,q3,hgb⟩:=zb HP (Xl p ps.length) (W6 p (by omega))
  have hgl:g<w.heap.size:=World.block_lt_of_cell? _ _ q1
  have HK:=ze (pick_any p ps.length · p0 p1 (by omega) (by omega))
  have hjl:=W6 p (n:=ps.length) (by omega)
  generalize Xl p ps.length=j at *
  have HQ:=ze q3
  have HA1:Hid (zf (fun _=>False) w (w.alloc (.cells #[.int .i64 kd,.int .i64 p,.int .i64 f,.int .i64 n,.string s,lv,nv,sv] 27))):=(zf.refl _ _).alloc _
  have HX:Hid (∀ W w',zf (fun _=>False) (w.alloc (.cells #[.int .i64 kd,.int .i64 p,.int .i64 f,.int .i64 n,.string s,lv,nv,sv] 27)) W→wW wi W w'→w'.cell? ⟨wi.heap.size,0,none⟩=some (.slice (some ⟨g,0,none⟩) ps.length pc)∧w'.cell? ⟨g,j*2,none⟩=some (.pointer (some ⟨gx,0,none⟩))∧w'.cell? ⟨g,j*2+1,none⟩=some (.pointer (some ⟨gy,0,none⟩))∧w'.cell? ⟨w.heap.size,0,none⟩=some (.int .i64 kd)∧w'.cell? ⟨w.heap.size,1,none⟩=some (.int .i64 p)∧w'.cell? ⟨w.heap.size,2,none⟩=some (.int .i64 f)∧w'.cell? ⟨w.heap.size,3,none⟩=some (.int .i64 n)∧w'.cell? ⟨w.heap.size,4,none⟩=some (.string s)∧w'.cell? ⟨w.heap.size,5,none⟩=some lv∧w'.cell? ⟨w.heap.size,6,none⟩=some nv∧w'.cell? ⟨w.heap.size,7,none⟩=some sv):=fun W w' hW hf=>by
   have hA:=(zb HA1).trans hW
   have hg0:g≠wi.heap.size:=by omega
   have o:∀ (t:Nat) (u:Value),(w.alloc (.cells #[.int .i64 kd,.int .i64 p,.int .i64 f,.int .i64 n,.string s,lv,nv,sv] 27)).cell? ⟨w.heap.size,t,none⟩=some u→w'.cell? ⟨w.heap.size,t,none⟩=some u:=fun t u h=>zb HFR W w' _ u hA hf (zg hW _ _ h (fun f=>f)) (show w.heap.size≠wi.heap.size by omega) (fun h=>absurd h (Nat.lt_irrefl _))
   exact ⟨hf.1.trans (zg hA _ _ c0 (fun f=>f)),zb HFR W w' _ _ hA hf (zg hA _ _ q1 (fun f=>f)) hg0 (fun _=>rfl),zb HFR W w' _ _ hA hf (zg hA _ _ q2 (fun f=>f)) hg0 (fun _=>rfl),
    o 0 _ (zo w _ rfl _ _ 0 _ rfl),o 1 _ (zo w _ rfl _ _ 1 _ rfl),o 2 _ (zo w _ rfl _ _ 2 _ rfl),o 3 _ (zo w _ rfl _ _ 3 _ rfl),o 4 _ (zo w _ rfl _ _ 4 _ rfl),o 5 _ (zo w _ rfl _ _ 5 _ rfl),o 6 _ (zo w _ rfl _ _ 6 _ rfl),o 7 _ (zo w _ rfl _ _ 7 _ rfl)⟩
  clear q3 HP HFR HA1
  go_enter Tryz.func6,Tryz.ntmps6
  go_wp2_with fail
  go_region_held3 (fun w'=>w'.cell? ⟨wi.heap.size,0,none⟩=some (.slice (some ⟨g,0,none⟩) ps.length pc)∧w'.cell? ⟨g,j*2,none⟩=some (.pointer (some ⟨gx,0,none⟩))∧w'.cell? ⟨g,j*2+1,none⟩=some (.pointer (some ⟨gy,0,none⟩))∧w'.cell? ⟨w.heap.size,0,none⟩=some (.int .i64 kd)∧w'.cell? ⟨w.heap.size,1,none⟩=some (.int .i64 p)∧w'.cell? ⟨w.heap.size,2,none⟩=some (.int .i64 f)∧w'.cell? ⟨w.heap.size,3,none⟩=some (.int .i64 n)∧w'.cell? ⟨w.heap.size,4,none⟩=some (.string s)∧w'.cell? ⟨w.heap.size,5,none⟩=some lv∧w'.cell? ⟨w.heap.size,6,none⟩=some nv∧w'.cell? ⟨w.heap.size,7,none⟩=some sv) (go_keep)
   (first |(go_at_call 12;refine (zb HK _).mono ?_;rintro e w1 ⟨rfl,rfl⟩) |(go_at_call 14;refine (zb HA _ gx gy (((zf.refl _ _).alloc _).drewN _) (zb HQ)).mono ?_;rintro e w2 ⟨hst,hfr⟩;have HST:=ze hst;obtain ⟨rfl,_⟩:=hst;obtain ⟨x0,x1,x2,x3,x4,x5,x6,x7,x8,x9,x10⟩:=zb HX _ w2 ((zf.refl _ _).drewN _) hfr))
  go_wp2_with fail
  go_ret
  exact zb HST
structure OpR where
 k:Int
 p:Int
 f:Int
 n:Int
 s:ByteArray
 lv:Value
 nv:Value
 sv:Value
structure OpCells (w:World)(blk off:Nat)(o:OpR):Prop where
 c0:w.cell? ⟨blk,off,none⟩=some (.int .i64 o.k)
 c1:w.cell? ⟨blk,off+1,none⟩=some (.int .i64 o.p)
 c2:w.cell? ⟨blk,off+2,none⟩=some (.int .i64 o.f)
 c3:w.cell? ⟨blk,off+3,none⟩=some (.int .i64 o.n)
 c4:w.cell? ⟨blk,off+4,none⟩=some (.string o.s)
 c5:w.cell? ⟨blk,off+5,none⟩=some o.lv
 c6:w.cell? ⟨blk,off+6,none⟩=some o.nv
 c7:w.cell? ⟨blk,off+7,none⟩=some o.sv
 p0:-9223372036854775808≤o.p
 p1:o.p<9223372036854775808
 sl:(∃ a n c,o.lv = .slice a n c)∧(∃ a n c,o.nv = .slice a n c)∧∃ a n c,o.sv = .slice a n c
theorem OpCells.keep {w w':World}{blk off:Nat}{o:OpR}(h:OpCells w blk off o)(k:zf (fun _=>False) w w'):OpCells w' blk off o:=
 ⟨zg k _ _ h.c0 (fun f=>f),zg k _ _ h.c1 (fun f=>f),zg k _ _ h.c2 (fun f=>f),zg k _ _ h.c3 (fun f=>f),zg k _ _ h.c4 (fun f=>f),zg k _ _ h.c5 (fun f=>f),zg k _ _ h.c6 (fun f=>f),zg k _ _ h.c7 (fun f=>f),h.p0,h.p1,h.sl⟩
def ZJ (w:World)(v:Value)(os:List OpR):Prop:=∃ a cap,v = .slice a os.length cap∧∀ (i:Nat) o,os[i]?=some o→∃ blk off,a=some ⟨blk,off,none⟩∧OpCells w blk (off+i*8) o
theorem ZJ.slice {w:World}{v:Value}{os:List OpR}(h:ZJ w v os):∃ a c,v = .slice a os.length c:=by
 obtain ⟨a,cap,h1,_⟩:=h
 exact ⟨a,cap,h1⟩
theorem kz.new (w:World):kz w (w.alloc zaX) (fun _=>False) [] []:=
 ⟨⟨.slice none 0 0,.slice none 0 0,.slice none 0 0,⟨(zf.refl _ _).alloc _,by simp,zo w _ rfl _ _ 0 _ rfl,zo w _ rfl _ _ 1 _ rfl,zo w _ rfl _ _ 2 _ rfl,zo w _ rfl _ _ 3 _ rfl,zo w _ rfl _ _ 4 _ rfl,zo w _ rfl _ _ 6 _ rfl,zo w _ rfl _ _ 7 _ rfl,zo w _ rfl _ _ 8 _ rfl,zo w _ rfl _ _ 9 _ rfl,⟨0,zo w _ rfl _ _ 10 _ rfl⟩,fun j=>zv w _ rfl _ _ j,World.ownsRow_nil _ _ _ _,World.ownsRow_nil _ _ _ _,World.ownsRow_nil _ _ _ _,fun _ _ f=>f,fun _ _ f=>f,fun _ _ f=>f,fun f=>f,fun q hq=>by simp at hq,fun _ f=>f.elim⟩⟩,fun l hl=>by simp at hl⟩
theorem zc3 {S:Nat→Prop}{wi w:World}{ps:List (Nat×Nat)}{ls:List (Value×Int)}(o:OpR)(a:Nat→Addr)(hLaw:kz wi w S ps ls)(hS:Start wi a)(hk:o.k=1∨o.k=2∨o.k=3)(p0:-9223372036854775808≤o.p)(p1:o.p<9223372036854775808)(hn:ps.length≤5864062014805)(hm:ls.length+4≤5864062014805) :
  Calls Tryz.prog 6 #[.pointer (some ⟨wi.heap.size,0,none⟩),opV o.k o.p o.f o.n o.s o.lv o.nv o.sv] w (Z9 wi (ps.length+1) (ls.length+4)):=by
 rcases hk with hk |hk
 ·rw [hk];exact zc1 _ _ _ _ _ _ _ a hLaw hS hn
 ·exact zc2 _ _ _ _ _ _ _ _ a hLaw hS hk p0 p1 hn hm
def ja (wi w:World)(n:Nat):Prop:=∃ S ps ls,kz wi w S ps ls∧ps.length≤n∧ls.length≤4*n
theorem ja.keep0 {wi w w':World}{n:Nat}(h:ja wi w n)(k:zf (fun _=>False) w w'):ja wi w' n:=by
 obtain ⟨S,ps,ls,h1,h2⟩:=h
 exact ⟨S,ps,ls,h1.keep0 k,h2⟩
theorem ja.up {wi w:World}{n m:Nat}(h:ja wi w n)(k:n≤m):ja wi w m:=by
 obtain ⟨S,ps,ls,h1,h2,h3⟩:=h
 exact ⟨S,ps,ls,h1,by omega,by omega⟩
theorem ja.kept {wi w:World}{n:Nat}(h:ja wi w n)(hn:n≤1172812402961):Calls Tryz.prog 7 #[.pointer (some ⟨wi.heap.size,0,none⟩)] w fun e w'=>e = .returned (.bool true)∧zf (fun _=>False) w w':=by
 obtain ⟨S,ps,ls,h1,h2,h3⟩:=h
 exact KC h1 (by omega)
theorem ja.step {wi w:World}{n:Nat}(h:ja wi w n)(o:OpR)(a:Nat→Addr)(hS:Start wi a)(hk:o.k=1∨o.k=2∨o.k=3)(p0:-9223372036854775808≤o.p)(p1:o.p<9223372036854775808)(hn:n<1172812402961) :
  Calls Tryz.prog 6 #[.pointer (some ⟨wi.heap.size,0,none⟩),opV o.k o.p o.f o.n o.s o.lv o.nv o.sv] w fun e w'=>e = .returned (.bool true)∧ja wi w' (n+1):=by
 obtain ⟨S,ps,ls,h1,h2,h3⟩:=h
 refine (zc3 o a h1 hS hk p0 p1 (by omega) (by omega)).mono ?_
 rintro e w' ⟨he,S',ps',ls',q1,q2,q3⟩
 exact ⟨he,S',ps',ls',q1,by omega,by omega⟩
set_option maxHeartbeats 8000000
theorem ja.old {wi w:World}{n:Nat}(h:ja wi w n):zf (fun _=>False) wi w:=by
 obtain ⟨S,ps,ls,⟨⟨_,_,_,h1⟩,_⟩,_⟩:=h
 exact h1.old
theorem zc4 (os:List OpR)(v:Value)(w:World)(a:Nat→Addr)(hS:Start w a)(hN:ZJ w v os)(hn:os.length≤1172812402961) :
  Calls Tryz.prog 5 #[v,.int .i64 2,.int .i64 3] w fun e w'=>e = .returned (.bool true)∧zf (fun _=>False) w w':=by
 obtain ⟨sa,sc,rfl⟩:=hN.slice
 have HN:=ze hN
 have HS:=ze hS
 have HW:Hid (ja w (w.alloc zaX) 0):=⟨_,[],[],kz.new w,by simp,by simp⟩
 clear hN hS
 unfold zaX at HW
 go_enter Tryz.func5,Tryz.ntmps5
 go_wp2_with fail
 generalize World.alloc w _=W0 at HW ⊢
 go_loopw [8] (fun k wr=>∃ i:Nat,k = .int .i64 i∧i≤os.length∧Hid (ja w wr i)) (fun k _=>os.length-(intOf k).toNat)
 case atStart=>exact ⟨0,rfl,by omega,HW⟩
 case round=>
  clear HW
  obtain ⟨i,rfl,hi,HP⟩:=hrel
  by_cases hlt:i<os.length
  ·obtain ⟨sa',sc',e,hc⟩:=zb HN
   ·cases e
    obtain ⟨blk,off,rfl,hop⟩:=hc i os[i] (List.getElem?_eq_getElem hlt)
    replace hop:=hop.keep (zb HP).old
    generalize os[i]=o at hop
    clear hc
    have HST:Hid (∀ w1,zf (fun _=>False) wr w1→(o.k=1∨o.k=2∨o.k=3)→Calls Tryz.prog 6 #[.pointer (some ⟨w.heap.size,0,none⟩),opV o.k o.p o.f o.n o.s o.lv o.nv o.sv] w1 fun e w'=>e = .returned (.bool true)∧ja w w' (i+1)):=fun w1 h1 hk=>((zb HP).keep0 h1).step o a (zb HS) hk hop.p0 hop.p1 (by omega)
    obtain ⟨c0,c1,c2,c3,c4,c5,c6,c7,p0,p1,⟨⟨a1,n1,k1,e1⟩,⟨a2,n2,k2,e2⟩,⟨a3,n3,k3,e3⟩⟩⟩:=hop
    obtain ⟨kd,p,f,n,s,lv,nv,sv⟩:=o
    simp only [] at c0 c1 c2 c3 c4 c5 c6 c7 p0 p1 e1 e2 e3 HST
    subst e1 e2 e3
    clear p0 p1 HN
    by_cases hk:kd=1∨kd=2∨kd=3
    ·have HST2:Hid (∀ w1,zf (fun _=>False) wr w1→Calls Tryz.prog 6 #[.pointer (some ⟨w.heap.size,0,none⟩),.agg #[.int .i64 kd,.int .i64 p,.int .i64 f,.int .i64 n,.string s,.slice a1 n1 k1,.slice a2 n2 k2,.slice a3 n3 k3]] w1 fun e w'=>e = .returned (.bool true)∧ja w w' (i+1)):=fun w1 h1=>zb HST w1 h1 hk
     clear HST
     rcases hk with rfl |rfl |rfl
     all_goals go_wp2_with (first |(go_at_call 6;refine (zb HST2 _ ((zf.refl _ _).alloc _)).mono ?_;rintro e w1 ⟨rfl,hP1⟩;have HP1:=ze hP1;clear hP1) |(go_at_call 7;refine ((zb HP1).kept (by omega)).mono ?_;rintro e w2 ⟨rfl,hO2⟩))
     all_goals exact ⟨⟨i+1,by go_num,by omega,(zb HP1).keep0 hO2⟩,by simp [intOf];omega⟩
    ·clear HST
     have hk1:(kd != 1)=true:=by simp;omega
     by_cases hlo:kd<2
     ·have hd:decide (kd<2)=true:=by simp [hlo]
      clear hk
      go_wp2_with fail
      exact ⟨⟨i+1,by go_num,by omega,((zb HP).keep0 ((zf.refl _ _).alloc _)).up (by omega)⟩,by simp [intOf];omega⟩
     ·have hd:decide (kd<2)=false:=by simp;omega
      have hd3:3<kd:=by omega
      clear hk
      go_wp2_with fail
      exact ⟨⟨i+1,by go_num,by omega,((zb HP).keep0 ((zf.refl _ _).alloc _)).up (by omega)⟩,by simp [intOf];omega⟩
  ·clear HN
   generalize wr=wo at *
   obtain ⟨S,ps,ls,hL,hpl,hll⟩:=zb HP
   obtain ⟨pv,iv,mv,hR⟩:=hL.1
   obtain ⟨pa,pc,rfl,hcell⟩:=W7 hR.rp
   have c0:=hR.c0
   have c1:=hR.c1
   have HPC:Hid (∀ j,j<ps.length→∃ g gx gy,pa=some ⟨g,0,none⟩∧wo.cell? ⟨g,j*2,none⟩=some (.pointer (some ⟨gx,0,none⟩))∧wo.cell? ⟨g,j*2+1,none⟩=some (.pointer (some ⟨gy,0,none⟩))∧qu wo S gx gy):=fun j hj=>by
    obtain ⟨g,h1,h2,h3⟩:=hcell j ps[j] (List.getElem?_eq_getElem hj)
    exact ⟨g,_,_,h1,h2,h3,hR.pats _ (List.getElem_mem hj)⟩
   have hpn:ps.length≤1172812402961:=by omega
   clear hR hL hcell hll
   go_wp2_with fail
   go_loopw [12] (fun k wq=>∃ j:Nat,k = .int .i64 j∧j≤ps.length∧Hid (zf (fun _=>False) wo wq)) (fun k _=>ps.length-(intOf k).toNat)
   case atStart=>exact ⟨0,rfl,by omega,zf.refl _ _⟩
   case round=>
    obtain ⟨j,rfl,hj,HQ⟩:=hrel
    by_cases hjl:j<ps.length
    ·obtain ⟨g,gx,gy,rfl,q1,q2,q3⟩:=zb HPC j hjl
     obtain ⟨base,t,ts,z,hC,_,hz,_,_,z0,z1,_⟩:=q3.use
     have hm:min (z+1) 301=z+1:=by omega
     have HZ:Hid (∀ W,zf (fun _=>False) wo W→Calls Tryz.prog 8 #[.pointer (some ⟨gx,0,none⟩)] W fun x w'=>x = .returned (.int .i64 (z+1))∧zf (fun _=>False) wo w'∧w'.cell? ⟨w.heap.size,0,none⟩=some (.slice (some ⟨g,0,none⟩) ps.length pc)∧w'.cell? ⟨g,j*2,none⟩=some (.pointer (some ⟨gx,0,none⟩))∧w'.cell? ⟨g,j*2+1,none⟩=some (.pointer (some ⟨gy,0,none⟩))∧w'.cell? ⟨gy,1,none⟩=some (.int .i64 (z+1))):=fun W hW=>
      (WJ gx _ W (zg hW _ _ hC.size (fun f=>f))).mono (by
       rintro e w' ⟨rfl,hO⟩
       rw [hm]
       have hO':=hW.trans hO
       exact ⟨rfl,hO',zg hO' _ _ c0 (fun f=>f),zg hO' _ _ q1 (fun f=>f),zg hO' _ _ q2 (fun f=>f),zg hO' _ _ hz (fun f=>f)⟩)
     have y0:=zg (zb HQ) _ _ c0 (fun f=>f)
     have y1:=zg (zb HQ) _ _ q1 (fun f=>f)
     have y2:=zg (zb HQ) _ _ q2 (fun f=>f)
     have y3:=zg (zb HQ) _ _ hz (fun f=>f)
     clear hC q3 HPC c0 c1 q1 q2 hz hm
     go_wp2_with fail
     go_region_held3 (fun w'=>w'.cell? ⟨w.heap.size,0,none⟩=some (.slice (some ⟨g,0,none⟩) ps.length pc)∧w'.cell? ⟨g,j*2,none⟩=some (.pointer (some ⟨gx,0,none⟩))∧w'.cell? ⟨g,j*2+1,none⟩=some (.pointer (some ⟨gy,0,none⟩))∧w'.cell? ⟨gy,1,none⟩=some (.int .i64 (z+1))) (go_keep)
      (first |(go_at_call 8;refine (zb HZ _ ((zb HQ).drewN _)).mono ?_;rintro e w2 ⟨rfl,hO2,x0,x1,x2,x3⟩))
     go_wp2_with fail
     exact ⟨⟨j+1,by go_num,by omega,hO2⟩,by simp [intOf];omega⟩
    ·have e0:=zg (zb HQ) _ _ c0 (fun f=>f)
     have e1:=zg (zb HQ) _ _ c1 (fun f=>f)
     have HP2:=ze ((zb HP).keep0 (zb HQ))
     clear HPC c0 c1
     go_wp2_with fail
     refine wp_loop_rounds 1 ?_
     rw [rounds_succ]
     go_wp2_with (go_at_call 7;refine ((zb HP2).kept (by omega)).mono ?_;rintro e w2 ⟨rfl,hO2⟩)
     go_ret
     exact ⟨rfl,(zb HP2).old.trans hO2⟩
theorem zc5 (os:List OpR)(v:Value)(w:World)(a:Nat→Addr)(hS:Start w a)(hN:ZJ w v os)(hn:os.length≤1172812402961) :
  Calls Tryz.prog 4 #[v] w fun e w'=>e = .returned (.bool true)∧zf (fun _=>False) w w':=by
 have HP:=ze (zc4 os v w a hS hN hn)
 obtain ⟨sa,sc,rfl⟩:=hN.slice
 clear hS hN
 go_enter Tryz.func4,Tryz.ntmps4
 go_wp2_with (go_at_call 5;refine (zb HP).mono ?_;rintro e w1 ⟨rfl,hO1⟩)
 go_ret
 exact ⟨rfl,hO1⟩
end
end Go.Proofs.YtnagphodmfejiaaGreatDoor
