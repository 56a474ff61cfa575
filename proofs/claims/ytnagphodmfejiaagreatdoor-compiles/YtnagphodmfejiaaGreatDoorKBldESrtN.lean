/- The program's builder: counts; any part. The program's builder: any part. (Written by a program.) The shelf's contracts of slices, laid at this program. The program's iterator over its sets. The library's sort of no characters. -/
import Derived.Test.YtnagphodmfejiaaGreatDoorKPrgABldD
import Derived.Test.YtnagphodmfejiaaGreatDoorKSrtICsD
import Derived.Shelf.SlicesE.Compact
import Derived.Shelf.SlicesQ.IndexFunc
import Derived.Ground.SlgnProg
import Derived.Ground.SlgfProg
namespace Go.Proofs.YtnagphodmfejiaaGreatDoor
open Go.RowKit
open Sm (Stp Tree bld bTimes bSeq bChoice bOpt bBody)
theorem bld_rep (f : Nat) (t : Tree) (l m : Int) (nx : Nat) (S : List Stp) : bld (f + 1) (Pro.tRep t l m) nx S = if m = -1 then (if l = 0 then (S.length, (bBody (bld f) t nx S).2) else bTimes (bld f) t (l - 1).toNat (bBody (bld f) t nx S).1 (bBody (bld f) t nx S).2) else bTimes (bld f) t l.toNat (bOpt (bld f) t nx (m - l).toNat nx S).1 (bOpt (bld f) t nx (m - l).toNat nx S).2 := by
 unfold bld
 rw [if_neg (by simp [Pro.tRep]), if_neg (by simp [Pro.tRep]), if_neg (by simp [Pro.tRep]), if_pos (by rfl)]
 rfl
set_option maxHeartbeats 2000000 in
theorem repeat_any (f bb : Nat) (HB : BOK f bb) (T : TypeId) (y : Value) (l m : Int) (t : Tree) (nx : Nat) (Z : List (Stp × Value)) (w : World) (hp : PrtOK f w bb (.iface T y) t) (h0 : 0 ≤ l) (h1 : l ≤ 100) (h2 : -1 ≤ m) (h3 : m ≤ 100) (h4 : m = -1 ∨ l ≤ m) (hZ : BldAt w bb Z) (hn : nx < Z.length) (r : Nat × List Stp) (hr : bld (f + 1) (Pro.tRep t l m) nx (sts Z) = r) (hl : r.2.length ≤ 1000) :
   Calls Tryz.prog 114 #[.pointer (some ⟨bb, 0, none⟩), .agg #[.iface T y, .int .i64 l, .int .i64 m], .int .i64 (nx : Nat)] w (Builds w bb r) := by
 have hB := hide HB
 have HP := hide hp
 have HZ := hide hZ
 clear HB hp hZ
 have HOA : Hid (Only (fun _ => False) w (w.alloc (.cells #[.iface T y, .int .i64 l, .int .i64 m] 254))) := (Only.refl _ _).alloc _
 have b0 : (w.alloc (.cells #[.iface T y, .int .i64 l, .int .i64 m] 254)).cell? ⟨w.heap.size, 0, none⟩ = some (.iface T y) := new_cell w _ rfl _ _ 0 _ rfl
 have b1 : (w.alloc (.cells #[.iface T y, .int .i64 l, .int .i64 m] 254)).cell? ⟨w.heap.size, 1, none⟩ = some (.int .i64 l) := new_cell w _ rfl _ _ 1 _ rfl
 have b2 : (w.alloc (.cells #[.iface T y, .int .i64 l, .int .i64 m] 254)).cell? ⟨w.heap.size, 2, none⟩ = some (.int .i64 m) := new_cell w _ rfl _ _ 2 _ rfl
 have hbw := (unhide HZ).lt
 have HTA := hide (BldTo.young (unhide HZ) (unhide HOA))
 have HPA := hide ((unhide HP).keep (unhide HTA).only)
 have hnA : ¬ OwnBd (w.alloc (.cells #[.iface T y, .int .i64 l, .int .i64 m] 254)) bb w.heap.size := fun h => by
   rcases h with h1 | ⟨sv, h1, h2⟩
   · omega
   · have := OwnBd.lt (unhide HZ) (k := w.heap.size) (.inr ⟨sv, ((unhide HOA).cell (p := ⟨bb, 0, none⟩) hbw (fun f => f)).symm.trans h1, h2⟩)
     omega
 have hsA : (w.alloc (.cells #[.iface T y, .int .i64 l, .int .i64 m] 254)).heap.size = w.heap.size + 1 := by simp
 rw [bld_rep] at hr
 by_cases hm : m = -1
 · subst hm
   rw [if_pos rfl, sts_len] at hr
   have HCl := hide (loop_any f bb (unhide hB) T y l (-1) t nx Z _ (unhide HPA) h0 h1 (unhide HTA).at' hn r hr hl)
   go_enter Tryz.func114, Tryz.ntmps114
   go_wp2_with (go_at_call 152; refine (unhide HCl).mono ?_; rintro e w4 ⟨Y4, rfl, hs4, hT4⟩; have HT4 := hide ((unhide HTA).trans hT4); have HS4 := hide hs4; clear hT4 hs4)
   go_ret
   exact ⟨Y4, rfl, unhide HS4, unhide HT4⟩
 · rw [if_neg hm] at hr
   have hmd : (m == -1) = false := by simpa using hm
   go_enter Tryz.func114, Tryz.ntmps114
   go_wp2_with fail
   generalize w.alloc (.cells #[.iface T y, .int .i64 l, .int .i64 m] 254) = wA at *
   obtain ⟨K, hK⟩ : ∃ K : Nat, (K : Int) = m - l := ⟨(m - l).toNat, by omega⟩
   have hK2 : (m - l).toNat = K := by omega
   rw [hK2] at hr
   have hbo : (bOpt (bld f) t nx K nx (sts Z)).2.length ≤ 1000 := by rw [← hr] at hl; exact Nat.le_trans (Sm.bTimes_adds (Sm.bld_adds f) _ _ _) hl
   have hso := Sm.bOpt_starts (Sm.bld_adds f) (Sm.bld_starts f) (t := t) (nx := nx) K nx (sts Z) (by rw [sts_len]; exact hn)
   rw [← hK]
   have HR := hide hr
   have hK3 : K ≤ 201 := by omega
   clear hr hK2 hK
   go_loopw [7, 21] (fun vb vj wr => ∃ (b j : Nat) (Y : List (Stp × Value)), vb = .int .i64 (b : Nat) ∧ vj = .int .i64 (j : Nat) ∧ j ≤ K ∧ b < Y.length ∧ nx < Y.length ∧ Hid (BldTo wA wr bb Y) ∧ wr.cell? ⟨w.heap.size, 0, none⟩ = some (.iface T y) ∧ wr.cell? ⟨w.heap.size, 1, none⟩ = some (.int .i64 l) ∧ Hid (¬ OwnBd wr bb w.heap.size) ∧ Hid (bOpt (bld f) t nx K nx (sts Z) = bOpt (bld f) t nx (K - j) b (sts Y))) (fun _ vj _ => K - (intOf vj).toNat)
   case atStart => exact ⟨nx, 0, Z, rfl, rfl, by omega, hn, hn, BldTo.refl (unhide HTA).at', b0, b1, hnA, rfl⟩
   case round =>
     obtain ⟨b, j, Y, rfl, rfl, hj, hbY, hnY, HT, c0, c1, Hn, HF⟩ := hrel
     have hzT := (unhide HT).own.size
     by_cases hlt : j < K
     · obtain ⟨k, hk⟩ : ∃ k, K - j = k + 1 := ⟨K - j - 1, by omega⟩
       have HF2 : Hid (bOpt (bld f) t nx K nx (sts Z) = bOpt (bld f) t nx k (bld f t b (sts Y)).2.length ((bld f t b (sts Y)).2 ++ [Sm.forker (bld f t b (sts Y)).1 nx])) := by rw [unhide HF, hk]; rfl
       have hbig : (bld f t b (sts Y)).2.length + 1 ≤ 1000 := by
         rw [unhide HF2] at hbo
         have := Sm.bOpt_adds (Sm.bld_adds f) (t := t) (nx := nx) k (bld f t b (sts Y)).2.length ((bld f t b (sts Y)).2 ++ [Sm.forker (bld f t b (sts Y)).1 nx])
         simp only [List.length_append, List.length_singleton] at this
         omega
       have had := Sm.bld_adds f t b (sts Y)
       rw [sts_len] at had
       have HCa := hide (unhide hB (.iface T y) _ b Y wr ((unhide HPA).keep (unhide HT).only) (unhide HT).at' hbY (by omega))
       generalize hq : bld f t b (sts Y) = q at *
       go_wp2_with (go_at_call 61; refine (unhide HCa).mono ?_; rintro e w1 ⟨Y2, rfl, hs2, hT2⟩; have HT2 := hide hT2; have HS2 := hide hs2; clear hT2 hs2)
       have hY2 : Y2.length = q.2.length := by rw [← sts_len, unhide HS2]
       have d0 := ((unhide HT2).cell (p := ⟨w.heap.size, 0, none⟩) (by show _ < _; simp only; omega) (unhide Hn)).trans c0
       have d1 := ((unhide HT2).cell (p := ⟨w.heap.size, 1, none⟩) (by show _ < _; simp only; omega) (unhide Hn)).trans c1
       have hz2 := (unhide HT2).own.size
       have hn2 : ¬ OwnBd w1 bb w.heap.size := fun h => by
         rcases (unhide HT2).sep _ h with h | h
         · exact unhide Hn h
         · omega
       refine (add_plain bb Y2 (Sm.forker q.1 nx) w1 (unhide HT2).at' (by simp [Sm.forker]) (by omega)).mono ?_
       rintro e w3 ⟨Y3, rfl, hs3, hT3⟩
       have f0 := (hT3.cell (p := ⟨w.heap.size, 0, none⟩) (by show _ < _; simp only; omega) hn2).trans d0
       have f1 := (hT3.cell (p := ⟨w.heap.size, 1, none⟩) (by show _ < _; simp only; omega) hn2).trans d1
       have hn3 : ¬ OwnBd w3 bb w.heap.size := fun h => by
         rcases hT3.sep _ h with h | h
         · exact hn2 h
         · omega
       have HN3 := hide hn3
       have HT3 := hide (((unhide HT).trans (unhide HT2)).trans hT3)
       have HS3 := hide hs3
       clear hT3 hs3 d0 d1 c0 c1 hn2 hn3
       go_wp2_with fail
       have hY3 : Y3.length = Y2.length + 1 := by rw [← sts_len, unhide HS3]; simp [sts_len]
       exact ⟨⟨q.2.length, j + 1, Y3, rfl, by go_num, by omega, by omega, by omega, unhide HT3, f0, f1, unhide HN3, (by rw [unhide HF2, unhide HS3, unhide HS2, show K - (j + 1) = k by omega]; rfl)⟩, by simp [intOf]; omega⟩
     · have HE : Hid (bOpt (bld f) t nx K nx (sts Z) = (b, sts Y)) := by rw [unhide HF, show K - j = 0 by omega]; rfl
       have hR := unhide HR
       rw [unhide HE] at hR
       have HCt := times_any f bb (unhide hB) (.iface T y) t l.toNat b Y wr ((unhide HPA).keep (unhide HT).only) ⟨_, _, rfl⟩ (unhide HT).at' hbY (by omega) (by rw [hR]; exact hl)
       rw [hR, show ((l.toNat : Nat) : Int) = l by omega] at HCt
       have HCt := hide HCt
       clear hR
       go_wp2_with (go_at_call 153; refine (unhide HCt).mono ?_; rintro e w4 ⟨Y4, rfl, hs4, hT4⟩; have HT4 := hide ((unhide HTA).trans ((unhide HT).trans hT4)); have HS4 := hide hs4; clear hT4 hs4)
       go_ret
       exact ⟨Y4, rfl, unhide HS4, unhide HT4⟩
theorem Tryz.bs15 (v : Value) (w : World) : (Instr.typeAssert (.iface 244 v) 90 228 true).run Tryz.prog w = .ok (.tuple #[.slice none 0 0, .bool false]) w := by kernel_rfl
theorem Tryz.bs16 (v : Value) (w : World) : (Instr.typeAssert (.iface 244 v) 90 252 true).run Tryz.prog w = .ok (.tuple #[.slice none 0 0, .bool false]) w := by kernel_rfl
theorem Tryz.bs17 (v : Value) (w : World) : (Instr.typeAssert (.iface 244 v) 90 254 true).run Tryz.prog w = .ok (.tuple #[.agg #[.nilIface, .int .i64 0, .int .i64 0], .bool false]) w := by kernel_rfl
theorem Tryz.bs25 (v : Value) (w : World) : (Instr.typeAssert (.iface 245 v) 90 228 true).run Tryz.prog w = .ok (.tuple #[.slice none 0 0, .bool false]) w := by kernel_rfl
theorem Tryz.bs26 (v : Value) (w : World) : (Instr.typeAssert (.iface 245 v) 90 252 true).run Tryz.prog w = .ok (.tuple #[.slice none 0 0, .bool false]) w := by kernel_rfl
theorem Tryz.bs27 (v : Value) (w : World) : (Instr.typeAssert (.iface 245 v) 90 254 true).run Tryz.prog w = .ok (.tuple #[.agg #[.nilIface, .int .i64 0, .int .i64 0], .bool false]) w := by kernel_rfl
theorem Tryz.bs35 (v : Value) (w : World) : (Instr.typeAssert (.iface 246 v) 90 228 true).run Tryz.prog w = .ok (.tuple #[.slice none 0 0, .bool false]) w := by kernel_rfl
theorem Tryz.bs36 (v : Value) (w : World) : (Instr.typeAssert (.iface 246 v) 90 252 true).run Tryz.prog w = .ok (.tuple #[.slice none 0 0, .bool false]) w := by kernel_rfl
theorem Tryz.bs37 (v : Value) (w : World) : (Instr.typeAssert (.iface 246 v) 90 254 true).run Tryz.prog w = .ok (.tuple #[.agg #[.nilIface, .int .i64 0, .int .i64 0], .bool false]) w := by kernel_rfl
theorem Tryz.bs45 (v : Value) (w : World) : (Instr.typeAssert (.iface 250 v) 90 228 true).run Tryz.prog w = .ok (.tuple #[.slice none 0 0, .bool false]) w := by kernel_rfl
theorem Tryz.bs46 (v : Value) (w : World) : (Instr.typeAssert (.iface 250 v) 90 252 true).run Tryz.prog w = .ok (.tuple #[.slice none 0 0, .bool false]) w := by kernel_rfl
theorem Tryz.bs47 (v : Value) (w : World) : (Instr.typeAssert (.iface 250 v) 90 254 true).run Tryz.prog w = .ok (.tuple #[.agg #[.nilIface, .int .i64 0, .int .i64 0], .bool false]) w := by kernel_rfl
theorem PartAt.iface : ∀ {f : Nat} {w : World} {A : Nat → Prop} {v : Value} {t : Tree}, PartAt f w A v t → ∃ T y, v = .iface T y
 | 0, _, _, _, _, h => h.elim
 | f + 1, w, A, v, t, h => by
   rcases h with h | ⟨sv, xs, ts, _, h, _⟩ | ⟨sv, xs, ts, _, h, _⟩ | ⟨p, l, m, t', _, h, _⟩
   · rcases h with ⟨c, _, h⟩ | ⟨_, h⟩ | ⟨c, _, h⟩ | ⟨c, _, h⟩ | ⟨neg, R, S, v1, v2, _, h, _⟩ <;> exact ⟨_, _, h⟩
   · exact ⟨_, _, h⟩
   · exact ⟨_, _, h⟩
   · exact ⟨_, _, h⟩
theorem okSh_of {a : Int} (h : Pro.setB a = true) : okSh a := by
 simp [Pro.setB] at h
 unfold okSh
 omega
theorem leafOK_of {f : Nat} {t : Tree} (h : Pro.ShOK (f + 1) t) (k : Pro.LnOK (f + 1) t) : LeafOK t := by
 refine ⟨fun c e => ?_, fun neg R S e => ?_⟩
 · subst e
   exact okSh_of (h.2.1 rfl)
 · subst e
   exact ⟨fun a ha => okSh_of ((h.2.2.1 rfl).2 a ha), k.1 rfl⟩
theorem bld_asr (f : Nat) (c : Int) (nx : Nat) (S : List Stp) : bld (f + 1) (Pro.tAsr c) nx S = (S.length, S ++ [Sm.tester c nx]) := by
 unfold bld
 rw [if_pos (by rfl)]
 rfl
theorem bld_leaf (f : Nat) (t : Tree) (h1 : t.kind ≠ 0) (h2 : t.kind < 5) (nx : Nat) (S : List Stp) : bld (f + 1) t nx S = (S.length, S ++ [Sm.taker t nx]) := by
 unfold bld
 rw [if_neg h1, if_neg (by omega), if_neg (by omega), if_neg (by omega)]
theorem bld_alt (f : Nat) (t : Tree) (ts : List Tree) (nx : Nat) (S : List Stp) : bld (f + 1) (Pro.tAlt (t :: ts)) nx S = bChoice (bld f) nx ts (bld f t nx S).1 (bld f t nx S).2 := by
 rw [bld.eq_def]
 simp [Pro.tAlt]
theorem bld_seq (f : Nat) (ts : List Tree) (nx : Nat) (S : List Stp) : bld (f + 1) (Pro.tSeq ts) nx S = bSeq (bld f) ts.reverse nx S := by
 rw [bld.eq_def]
 simp [Pro.tSeq]
theorem stp_taker (t : Tree) (nx : Nat) (c : Int) : Prg.setP (Sm.taker t nx) c = Cs.leafP t c := by simp [Prg.setP, Sm.taker]
set_option maxHeartbeats 2000000 in
set_option maxRecDepth 1000000 in
theorem build_all (bb : Nat) : ∀ f, BOK f bb := by
 intro f
 induction f with
 | zero => intro v t nx Z w hp; exact hp.at'.elim
 | succ f ih =>
   intro v t nx Z w hp hZ hn hl
   have IH := hide ih
   have hzl : Z.length ≤ 1000 := by have := Sm.bld_adds (f + 1) t nx (sts Z); rw [sts_len] at this; omega
   have HZ := hide hZ
   clear ih
   have hq := hp.at'
   rcases hq with h | ⟨sv, xs, ts, rfl, rfl, hr, hxl, htl, hk, h0⟩ | ⟨sv, xs, ts, rfl, rfl, hr, hxl, htl, hk⟩ | ⟨p, l, m, t', rfl, rfl, hpt, h0, h1, h2, h3, h4⟩
   · by_cases hasr : ∃ c, t = Pro.tAsr c
     · obtain ⟨c, rfl⟩ := hasr
       obtain rfl : v = .iface 154 (.int .i64 c) := by
         rcases h with ⟨c', e, h⟩ | ⟨e, h⟩ | ⟨c', e, h⟩ | ⟨c', e, h⟩ | ⟨neg, R, S, v1, v2, e, h, _⟩
         · simp [Pro.tAsr] at e; subst e; exact h
         all_goals simp [Pro.tAsr, Pro.tAny, Pro.tChar, Pro.tShort, Pro.tCls] at e
       rw [bld_asr] at hl ⊢
       have a0 := Tryz.as00
       have HC := hide (add_plain bb Z (Sm.tester c nx) w (unhide HZ) (by simp [Sm.tester]) hzl)
       clear hp hZ hl h
       go_enter Tryz.func61, Tryz.ntmps61
       go_wp2_with fail
       clear a0
       refine (unhide HC).mono ?_
       rintro e w1 ⟨Y, rfl, hs, hT⟩
       have HT := hide hT
       have HS := hide hs
       clear hT hs
       go_wp2_with fail
       go_ret
       exact ⟨Y, by rw [sts_len]; rfl, unhide HS, unhide HT⟩
     · have hne : ∀ c, t ≠ Pro.tAsr c := fun c e => hasr ⟨c, e⟩
       have hM := fun w1 (o : Only (fun _ => False) w w1) => matched_any v t (fun g => g < bb) w1 (h.keep o (fun _ _ f => f)) hne (leafOK_of hp.sh hp.ln)
       have HM := hide hM
       have hkind : t.kind ≠ 0 ∧ t.kind < 5 := by
         rcases h with ⟨c', e, h⟩ | ⟨e, h⟩ | ⟨c', e, h⟩ | ⟨c', e, h⟩ | ⟨neg, R, S, v1, v2, e, h, _⟩
         · exact absurd e (hne c')
         all_goals subst e; exact ⟨by simp [Pro.tAny, Pro.tChar, Pro.tShort, Pro.tCls], by simp [Pro.tAny, Pro.tChar, Pro.tShort, Pro.tCls]⟩
       rw [bld_leaf f t hkind.1 hkind.2] at hl ⊢
       have HA : Hid (∀ (x : Value) (w1 w2 : World), BldAt w1 bb Z → NewSet w1 w2 (.agg #[x]) (Cs.leafP t) → Calls Tryz.prog 60 #[.pointer (some ⟨bb, 0, none⟩), .agg #[.int .i64 1, x, .int .i64 0, .int .i64 (nx : Nat), .int .i64 0]] w2 (Builds w2 bb (Z.length, sts Z ++ [Sm.taker t nx]))) := fun x w1 w2 hb hN =>
         (add_any bb Z (Sm.taker t nx) x w1.heap.size w2 (hb.young hN.2) (hN.1.congr (fun c => (stp_taker t nx c).symm)) (fun sv hsv => hb.own_lt sv ((hN.2.cell (p := ⟨bb, 0, none⟩) hb.lt (fun f => f)).symm.trans hsv)) hb.lt hzl).mono (fun e w' ⟨h1, h2⟩ => ⟨_, h1, by simp [sts], h2⟩)
       have hcs := h
       clear hM hp hZ hl h hasr hne
       rcases hcs with ⟨c', e, h⟩ | ⟨e, h⟩ | ⟨c', e, h⟩ | ⟨c', e, h⟩ | ⟨neg, R, S, v1, v2, e, h, g1, g2⟩
       · subst e; exact absurd rfl hkind.1
       · subst h
         have a0 := Tryz.as10
         have a5 := Tryz.bs15
         have a6 := Tryz.bs16
         have a7 := Tryz.bs17
         go_enter Tryz.func61, Tryz.ntmps61
         go_wp2_with fail
         clear a0 a5 a6 a7
         refine (unhide HM _ (Only.refl _ _)).mono ?_
         rintro e2 w1 ⟨v', rfl, hN⟩
         obtain ⟨qa, qn, qc, rfl⟩ := hN.1.slice
         have HN := hide hN
         clear hN
         go_wp2_with fail
         refine (unhide HA _ w w1 (unhide HZ) (unhide HN)).mono ?_
         rintro e2 w2 ⟨Y, rfl, hs, hT⟩
         have HT := hide ((BldTo.young (unhide HZ) (unhide HN).2).trans hT)
         have HS := hide hs
         clear hT hs
         go_wp2_with fail
         go_ret
         exact ⟨Y, by rw [sts_len]; rfl, unhide HS, unhide HT⟩
       · subst h
         have a0 := Tryz.as20
         have a5 := Tryz.bs25
         have a6 := Tryz.bs26
         have a7 := Tryz.bs27
         go_enter Tryz.func61, Tryz.ntmps61
         go_wp2_with fail
         clear a0 a5 a6 a7
         refine (unhide HM _ (Only.refl _ _)).mono ?_
         rintro e2 w1 ⟨v', rfl, hN⟩
         obtain ⟨qa, qn, qc, rfl⟩ := hN.1.slice
         have HN := hide hN
         clear hN
         go_wp2_with fail
         refine (unhide HA _ w w1 (unhide HZ) (unhide HN)).mono ?_
         rintro e2 w2 ⟨Y, rfl, hs, hT⟩
         have HT := hide ((BldTo.young (unhide HZ) (unhide HN).2).trans hT)
         have HS := hide hs
         clear hT hs
         go_wp2_with fail
         go_ret
         exact ⟨Y, by rw [sts_len]; rfl, unhide HS, unhide HT⟩
       · subst h
         have a0 := Tryz.as30
         have a5 := Tryz.bs35
         have a6 := Tryz.bs36
         have a7 := Tryz.bs37
         go_enter Tryz.func61, Tryz.ntmps61
         go_wp2_with fail
         clear a0 a5 a6 a7
         refine (unhide HM _ (Only.refl _ _)).mono ?_
         rintro e2 w1 ⟨v', rfl, hN⟩
         obtain ⟨qa, qn, qc, rfl⟩ := hN.1.slice
         have HN := hide hN
         clear hN
         go_wp2_with fail
         refine (unhide HA _ w w1 (unhide HZ) (unhide HN)).mono ?_
         rintro e2 w2 ⟨Y, rfl, hs, hT⟩
         have HT := hide ((BldTo.young (unhide HZ) (unhide HN).2).trans hT)
         have HS := hide hs
         clear hT hs
         go_wp2_with fail
         go_ret
         exact ⟨Y, by rw [sts_len]; rfl, unhide HS, unhide HT⟩
       · subst h
         obtain ⟨pa, pn, pc, rfl⟩ := g1.slice
         obtain ⟨ua, un, uc, rfl⟩ := g2.slice
         clear g1 g2
         have a0 := Tryz.as40
         have a5 := Tryz.bs45
         have a6 := Tryz.bs46
         have a7 := Tryz.bs47
         go_enter Tryz.func61, Tryz.ntmps61
         go_wp2_with fail
         clear a0 a5 a6 a7
         refine (unhide HM _ (Only.refl _ _)).mono ?_
         rintro e2 w1 ⟨v', rfl, hN⟩
         obtain ⟨qa, qn, qc, rfl⟩ := hN.1.slice
         have HN := hide hN
         clear hN
         go_wp2_with fail
         refine (unhide HA _ w w1 (unhide HZ) (unhide HN)).mono ?_
         rintro e2 w2 ⟨Y, rfl, hs, hT⟩
         have HT := hide ((BldTo.young (unhide HZ) (unhide HN).2).trans hT)
         have HS := hide hs
         clear hT hs
         go_wp2_with fail
         go_ret
         exact ⟨Y, by rw [sts_len]; rfl, unhide HS, unhide HT⟩
   · obtain ⟨t0, ts', rfl⟩ : ∃ t0 ts', ts = t0 :: ts' := by
       cases ts with
       | nil => simp at htl; omega
       | cons a b => exact ⟨a, b, rfl⟩
     rw [bld_alt] at hl ⊢
     have hcs : ∃ pa pn pc, sv = .slice pa pn pc := by rcases hr with ⟨h, _⟩ | ⟨g, cap, h, _⟩ <;> exact ⟨_, _, _, h⟩
     have HC := hide (choice_any f bb (unhide IH) sv xs t0 ts' nx Z w hr hxl htl (fun j x t hx ht => ⟨hk j x t hx ht, hp.sh.2.2.2 t (List.mem_of_getElem? ht), hp.ln.2 t (List.mem_of_getElem? ht)⟩) (fun x hx => by
       obtain ⟨j, hj⟩ := List.mem_iff_getElem?.1 hx
       have hjl : j < (t0 :: ts').length := by rw [htl]; exact (List.getElem?_eq_some_iff.1 hj).1
       exact (hk j x _ hj (List.getElem?_eq_getElem hjl)).iface) hZ hn hl)
     obtain ⟨pa, pn, pc, rfl⟩ := hcs
     clear hp hZ hr hk hl
     have a0 := Tryz.as50
     have a5 := Tryz.as55
     go_enter Tryz.func61, Tryz.ntmps61
     go_wp2_with fail
     clear a0 a5
     refine (unhide HC).mono ?_
     rintro e w2 ⟨Y, rfl, hs, hT⟩
     have HT := hide hT
     have HS := hide hs
     clear hT hs
     go_wp2_with fail
     go_ret
     exact ⟨Y, rfl, unhide HS, unhide HT⟩
   · rw [bld_seq] at hl ⊢
     have hcs : ∃ pa pn pc, sv = .slice pa pn pc := by rcases hr with ⟨h, _⟩ | ⟨g, cap, h, _⟩ <;> exact ⟨_, _, _, h⟩
     have HC := hide (sequence_any f bb (unhide IH) sv xs ts nx Z w hr hxl htl (fun j x t hx ht => ⟨hk j x t hx ht, hp.sh.2.2.2 t (List.mem_of_getElem? ht), hp.ln.2 t (List.mem_of_getElem? ht)⟩) (fun x hx => by
       obtain ⟨j, hj⟩ := List.mem_iff_getElem?.1 hx
       have hjl : j < ts.length := by rw [htl]; exact (List.getElem?_eq_some_iff.1 hj).1
       exact (hk j x _ hj (List.getElem?_eq_getElem hjl)).iface) hZ hn hl)
     obtain ⟨pa, pn, pc, rfl⟩ := hcs
     clear hp hZ hr hk hl
     have a0 := Tryz.as60
     have a5 := Tryz.as65
     have a6 := Tryz.as66
     go_enter Tryz.func61, Tryz.ntmps61
     go_wp2_with fail
     clear a0 a5 a6
     refine (unhide HC).mono ?_
     rintro e w2 ⟨Y, rfl, hs, hT⟩
     have HT := hide hT
     have HS := hide hs
     clear hT hs
     go_wp2_with fail
     go_ret
     exact ⟨Y, rfl, unhide HS, unhide HT⟩
   · obtain ⟨T, y, rfl⟩ := hpt.iface
     have HC := hide (fun w1 (hO : Only (fun _ => False) w w1) => repeat_any f bb (unhide IH) T y l m t' nx Z w1 ⟨PartAt.keep hO (fun _ _ f => f) f _ _ hpt, hp.sh.2.2.2 t' (by simp [Pro.tRep]), hp.ln.2 t' (by simp [Pro.tRep])⟩ h0 h1 h2 h3 h4 ((unhide HZ).young hO) hn _ rfl hl)
     generalize bld (f + 1) (Pro.tRep t' l m) nx (sts Z) = r at *
     clear hp hZ hpt
     have a0 := Tryz.as70
     have a5 := Tryz.as75
     have a6 := Tryz.as76
     have a7 := Tryz.as77
     go_enter Tryz.func61, Tryz.ntmps61
     go_wp2_with fail
     clear a0 a5 a6 a7
     have hO : Only (fun _ => False) w (w.alloc (.cells #[.iface T y, .int .i64 l, .int .i64 m] 254)) := (Only.refl _ _).alloc _
     refine (unhide HC _ hO).mono ?_
     rintro e w2 ⟨Y, rfl, hs, hT⟩
     have HT := hide ((BldTo.young (unhide HZ) hO).trans hT)
     have HS := hide hs
     clear hT hs hO
     go_wp2_with fail
     go_ret
     exact ⟨Y, rfl, unhide HS, unhide HT⟩
end Go.Proofs.YtnagphodmfejiaaGreatDoor
namespace Go.Proofs.YtnagphodmfejiaaGreatDoor
open Go.RowKit Go.Shelf Go.Lib Go.Sort
def laidCompact_ren : Go.Shelf.Ren := ⟨fun | 43 => 120 | n => n, fun | 22 => 158 | 23 => 21 | 3 => 3 | 4 => 4 | 0 => 0 | n => n, fun | n => n⟩
theorem laidCompact : Go.Proofs.SlLaysE.n43 Tryz.prog laidCompact_ren := {
 mixed := by kernel_rfl
 f43 := ⟨Tryz.f120.name, by decide, Tryz.func120.trans (congrArg some (by kernel_rfl))⟩
 t0 := Tryz.underlying0
 a0 := Tryz.isAgg0
 z0 := Tryz.sizeOf0
 v0 := Tryz.zeroValue0
 t3 := Tryz.underlying3
 a3 := Tryz.isAgg3
 z3 := Tryz.sizeOf3
 v3 := Tryz.zeroValue3
 t4 := Tryz.underlying4
 a4 := Tryz.isAgg4
 z4 := Tryz.sizeOf4
 v4 := Tryz.zeroValue4
 t22 := Tryz.underlying158
 a22 := Tryz.isAgg158
 z22 := Tryz.sizeOf158
 v22 := Tryz.zeroValue158
 a23 := Tryz.isAgg21
 z23 := Tryz.sizeOf21 }
def laidContains_ren : Go.Shelf.Ren := ⟨fun | 8 => 62 | 6 => 116 | n => n, fun | 22 => 146 | 23 => 156 | 25 => 162 | 4 => 4 | 3 => 3 | 0 => 0 | n => n, fun | n => n⟩
theorem laidContains : Go.Proofs.SlLaysH0.n8 Tryz.prog laidContains_ren := {
 mixed := by kernel_rfl
 f6 := ⟨Tryz.f116.name, by decide, Tryz.func116.trans (congrArg some (by kernel_rfl))⟩
 f8 := ⟨Tryz.f62.name, by decide, Tryz.func62.trans (congrArg some (by kernel_rfl))⟩
 t0 := Tryz.underlying0
 a0 := Tryz.isAgg0
 z0 := Tryz.sizeOf0
 v0 := Tryz.zeroValue0
 t3 := Tryz.underlying3
 a3 := Tryz.isAgg3
 z3 := Tryz.sizeOf3
 v3 := Tryz.zeroValue3
 t4 := Tryz.underlying4
 a4 := Tryz.isAgg4
 z4 := Tryz.sizeOf4
 v4 := Tryz.zeroValue4
 t22 := Tryz.underlying146
 a22 := Tryz.isAgg146
 z22 := Tryz.sizeOf146
 v22 := Tryz.zeroValue146
 t25 := Tryz.underlying162
 a25 := Tryz.isAgg162
 z25 := Tryz.sizeOf162
 v25 := Tryz.zeroValue162 }
theorem only_putRow {w : World} {blk q : Nat} {d : Array Int} : Only (Mine blk) w (putRow (Value.int .i32) (Sort.ahead w q) blk 0 d) := by
 refine ⟨rfl, rfl, rfl, by simp, fun k hk hn => ?_⟩
 have hne : k ≠ blk := hn
 unfold putRow mapBlock Sort.ahead
 simp only [Array.getElem?_modify, Ne.symm hne, if_false]
theorem RowI.holds {w : World} {blk n : Nat} (h : RowI w blk 0 n) : ∃ d : Array Int, d.size = n ∧ Holds (Value.int .i32) w blk 0 d := by
 obtain ⟨G, h1, h2⟩ := h
 refine ⟨Array.ofFn (n := n) (fun i => G i), by simp, fun j hj => ?_⟩
 simp at hj
 rw [getElem!_pos _ j (by simpa using hj)]
 simp only [Array.getElem_ofFn]
 exact ⟨h1 j hj, h2 j hj⟩
theorem compactR (blk n cap : Nat) (w : World) (h : RowI w blk 0 n) (hn : n < 1099511627776) (hc : n ≤ cap) :
   Calls Tryz.prog 120 #[.slice (some ⟨blk, 0, none⟩) n cap] w fun e w' => (∃ a k c, e = .returned (.slice a k c)) ∧ Only (Mine blk) w w' := by
 obtain ⟨d, rfl, hH⟩ := h.holds
 refine (AnyE.slices_Compact laidCompact (Value.int .i32) (fun _ => rfl) (EqlAt.intD _ _ _) (NeqAt.intD _ _ _) 0 (fun w => by kernel_rfl) blk 0 cap d w hH (by omega) hc).mono ?_
 rintro e w' ⟨rfl, q, rfl⟩
 exact ⟨⟨_, _, _, rfl⟩, only_putRow⟩
theorem compact_nil (w : World) : Calls Tryz.prog 120 #[.slice none 0 0] w fun e w' => (∃ a k c, e = .returned (.slice a k c)) ∧ Only (fun _ => False) w w' := by
 have HO : Hid (Only (fun _ => False) w w) := Only.refl _ _
 go_enter Tryz.func120, Tryz.ntmps120
 go_wp2_with fail
 go_ret
 exact ⟨⟨_, _, _, rfl⟩, unhide HO⟩
end Go.Proofs.YtnagphodmfejiaaGreatDoor
namespace Go.Proofs.YtnagphodmfejiaaGreatDoor
open Go.RowKit Go.Shelf
open Sm (Stp)
attribute [local go_sem] Oper.semAt_some
theorem stCells_five : ∀ (Z : List (Stp × Value)) (j : Nat) (z : Stp × Value), Z[j]? = some z → (stCells Z)[j * 5]? = some (.int .i64 (z.1.kind : Nat)) ∧ (stCells Z)[j * 5 + 1]? = some z.2 ∧ (stCells Z)[j * 5 + 2]? = some (.int .i64 z.1.asr) ∧ (stCells Z)[j * 5 + 3]? = some (.int .i64 (z.1.next : Nat)) ∧ (stCells Z)[j * 5 + 4]? = some (.int .i64 (z.1.other : Nat))
 | [], j, z, h => by simp at h
 | x :: Z, 0, z, h => by simp at h; subst h; simp [stCells]
 | x :: Z, j + 1, z, h => by
   have := stCells_five Z j z (by simpa using h)
   rw [show (j + 1) * 5 = j * 5 + 5 by omega]
   simpa [stCells] using this
structure StpsAt (w : World) (pb g cap : Nat) (Z : List (Stp × Value)) (wv : Value) : Prop where
 c0 : w.cell? ⟨pb, 0, none⟩ = some (.slice (some ⟨g, 0, none⟩) Z.length cap)
 c2 : w.cell? ⟨pb, 2, none⟩ = some wv
 le : Z.length ≤ cap
 row : ∀ j u, (stCells Z)[j]? = some u → w.cell? ⟨g, j, none⟩ = some u
 gl : g < w.heap.size
abbrev Slc := Option Addr × Nat × Nat
def slV (p : Slc) : Value := .slice p.1 p.2.1 p.2.2
def encSet (p : Slc) : Array Value := #[.agg #[slV p]]
set_option maxHeartbeats 4000000 in
set_option maxRecDepth 1000000 in
theorem sets_seq (pb g cap kb : Nat) (Z : List (Stp × Value)) (ws : Slc) (zs : List Slc) (w0 : World) (h : StpsAt w0 pb g cap Z (slV ws)) (hkb : w0.cell? ⟨kb, 0, none⟩ = some (.pointer (some ⟨pb, 0, none⟩))) (hz : Z.map Prod.snd = zs.map slV) (hl : Z.length ≤ 1000) (n : Nat) (hn1 : 1 ≤ n) :
   SeqO Fence.wide n Tryz.prog 121 #[.pointer (some ⟨kb, 0, none⟩)] encSet (ws :: zs) (fun k => k = kb ∨ k = pb ∨ k = g) w0 := by
 intro lp J O0 W hO hD hO0 hJ hY h0
 have hkl := World.block_lt_of_cell? w0 _ hkb
 have hpl := World.block_lt_of_cell? w0 _ h.c0
 have hgl := h.gl
 have HK : Hid (KeptD (fun k => k = kb ∨ k = pb ∨ k = g) w0 W O0) := KeptD.start (fun k hk => by rcases hk with rfl | rfl | rfl; exact hkl; exact hpl; exact hgl) hO hD
 have hk1 := ((unhide HK).cell (p := ⟨kb, 0, none⟩) (.inl rfl)).trans hkb
 have hk2 := ((unhide HK).cell (p := ⟨pb, 2, none⟩) (.inr (.inl rfl))).trans h.c2
 have HH := hide h
 have HJ := hide hJ
 have HY := hide hY
 have HZ := hide hz
 have hsW := hO.size
 have hzl : zs.length = Z.length := by have := congrArg List.length hz; simpa using this.symm
 obtain ⟨fn, tmps, assign, body, hy, hR⟩ := hY [] O0 ws W h0 (by simp)
 obtain ⟨wa, wn, wc⟩ := ws
 simp only [encSet, slV] at hy hk2
 clear h hJ hY h0 hD hO0 hz
 refine callsIn_of_wp Tryz.func121 rfl trivial ?_ rfl
 simp only [Tryz.ntmps121, List.size_toArray, List.length_cons, List.length_nil, Nat.reduceAdd, Nat.reduceSub, Array.replicate_succ, Array.replicate_zero, List.push_toArray, List.append_toArray, List.nil_append, List.cons_append]
 gi_wp2
 refine hR.mono ?_
 rintro e W1 ⟨rfl, O1, hJ1, hs1, hO1, hlt1⟩
 have HJ1 := hide hJ1
 have HK1 := hide ((unhide HK).yield hs1 hO1)
 have hm1 := ((unhide HK1).cell (p := ⟨kb, 0, none⟩) (.inl rfl)).trans hkb
 have hm2 := ((unhide HK1).cell (p := ⟨pb, 0, none⟩) (.inr (.inl rfl))).trans (unhide HH).c0
 clear hJ1 hs1 hO1 hlt1 hk1 hk2 hy hR HK
 gi_wp2
 gi_loopw [17] (fun vi wr => ∃ (i : Nat) (O : Nat → Prop), vi = .int .i64 i ∧ i ≤ Z.length ∧ Hid (J (((wa, wn, wc) : Slc) :: zs.take i) O wr) ∧ Hid (KeptD (fun k => k = kb ∨ k = pb ∨ k = g) w0 wr O)) (fun vi _ => Z.length - (intOf vi).toNat)
 case atStart => exact ⟨0, O1, rfl, by omega, HJ1, HK1⟩
 case round =>
   clear HK1 HJ1
   obtain ⟨i, O, rfl, hi, HJ1, HK⟩ := hrel
   by_cases hlt : i < Z.length
   · have hget : Z[i]? = some Z[i] := List.getElem?_eq_getElem hlt
     obtain ⟨f0, f1, f2, f3, f4⟩ := stCells_five Z i _ hget
     have kc : ∀ q u, (stCells Z)[q]? = some u → wr.cell? ⟨g, q, none⟩ = some u := fun q u hq => ((unhide HK).cell (p := ⟨g, q, none⟩) (.inr (.inr rfl))).trans ((unhide HH).row q u hq)
     have c0 := kc _ _ f0
     have c1 := kc _ _ f1
     have c2 := kc _ _ f2
     have c3 := kc _ _ f3
     have c4 := kc _ _ f4
     obtain ⟨⟨xa, xn, xc⟩, hzi⟩ : ∃ q, zs[i]? = some q := ⟨_, List.getElem?_eq_getElem (show i < zs.length by omega)⟩
     have hxe : Z[i].2 = .slice xa xn xc := by
       have h1 : (Z.map Prod.snd)[i]? = (zs.map slV)[i]? := by rw [unhide HZ]
       rw [List.getElem?_map, List.getElem?_map, hget, hzi] at h1
       simpa [slV] using h1
     have hzg : zs[i]'(by omega) = (xa, xn, xc) := by
       obtain ⟨h1, h2⟩ := List.getElem?_eq_some_iff.1 hzi
       exact h2
     have HP : Hid ((((wa, wn, wc) : Slc) :: zs.take i ++ [(xa, xn, xc)]) <+: (((wa, wn, wc) : Slc) :: zs)) := by
       rw [List.cons_append, ← hzg]
       exact (List.cons_prefix_cons).2 ⟨rfl, take_pre _ i (by omega)⟩
     have HT : Hid (((wa, wn, wc) : Slc) :: zs.take i ++ [(xa, xn, xc)] = ((wa, wn, wc) : Slc) :: zs.take (i + 1)) := by
       rw [List.cons_append, ← hzg, take_one _ i (by omega)]
       rfl
     rw [hxe] at c1
     clear hget f0 f1 f2 f3 f4 kc hzi hzg
     generalize Z[i] = y at *
     obtain ⟨⟨yk, yl, ya, yn, yo⟩, yv⟩ := y
     simp only [] at hxe c0 c2 c3 c4
     clear hxe
     have hJ2 := unhide HJ _ O wr (wr.alloc (.cells #[.int .i64 (yk : Nat), .slice xa xn xc, .int .i64 ya, .int .i64 (yn : Nat), .int .i64 (yo : Nat)] 156)) (unhide HJ1) ((Only.refl _ wr).alloc _)
     have HK2 := hide ((unhide HK).young (W := W) hsW (A' := wr.alloc (.cells #[.int .i64 (yk : Nat), .slice xa xn xc, .int .i64 ya, .int .i64 (yn : Nat), .int .i64 (yo : Nat)] 156)) ((Only.refl _ wr).alloc _))
     obtain ⟨fn, tmps, assign, body, hy, hR⟩ := unhide HY _ O (xa, xn, xc) _ hJ2 (unhide HP)
     simp only [encSet, slV] at hy
     clear hJ2
     gi_wp2
     refine hR.mono ?_
     rintro e W3 ⟨rfl, O', hJ3, hs3, hO3, hlt3⟩
     have HK3 := hide ((unhide HK2).yield hs3 hO3)
     gi_wp2
     exact ⟨⟨i + 1, O', by go_num, by omega, (by rw [← unhide HT]; exact hJ3), unhide HK3⟩, by simp [intOf]; omega⟩
   · obtain rfl : i = Z.length := by omega
     gi_wp2
     go_end0
     exact ⟨⟨_, rfl⟩, O, by have := unhide HJ1; rwa [List.take_of_length_le (by omega)] at this⟩
end Go.Proofs.YtnagphodmfejiaaGreatDoor
namespace Go.Proofs.YtnagphodmfejiaaGreatDoor
open Go.RowKit
theorem insertN (w : World) :
   Calls Tryz.prog 195 #[.slice none 0 0, .int .i64 0, .int .i64 0] w fun e w' => e = .returned (.tuple #[]) ∧ Only (fun _ => False) w w' := by
 go_enter Tryz.func195, Tryz.ntmps195
 go_wp2_with fail
 go_loopw [6] (fun vi wr => vi = .int .i64 1 ∧ Hid (Only (fun _ => False) w wr)) (fun _ _ => 0)
 case atStart => exact ⟨by go_num, Only.refl _ _⟩
 case round =>
   obtain ⟨rfl, HS⟩ := hrel
   go_wp2
   go_end0
   exact ⟨rfl, unhide HS⟩
theorem pdqN (lim : Int) (w : World) :
   Calls Tryz.prog 160 #[.slice none 0 0, .int .i64 0, .int .i64 0, .int .i64 lim] w fun e w' => e = .returned (.tuple #[]) ∧ Only (fun _ => False) w w' := by
 go_enter Tryz.func160, Tryz.ntmps160
 go_wp2_with fail
 go_loopw [1, 2, 3, 8, 9] (fun va vb vl v8 v9 wr => va = .int .i64 0 ∧ vb = .int .i64 0 ∧ vl = .int .i64 lim ∧ v8 = .bool true ∧ v9 = .bool true ∧ Hid (Only (fun _ => False) w wr)) (fun _ _ _ _ _ _ => 0)
 case atStart => exact ⟨rfl, rfl, rfl, rfl, rfl, Only.refl _ _⟩
 case round =>
   obtain ⟨rfl, rfl, rfl, rfl, rfl, HS⟩ := hrel
   go_wp2_with (go_at_call 195; refine (insertN _).mono ?_; rintro e w1 ⟨rfl, hS1⟩; have HS := hide ((unhide HS).trans hS1); clear hS1)
   (try simp only [Exit.inBlock, Exit.then]); refine bodyPost_ret (results_none rfl _ _ _) rfl ?_
   exact ⟨rfl, unhide HS⟩
theorem sortN (w : World) :
   Calls Tryz.prog 119 #[.slice none 0 0] w fun e w' => e = .returned (.tuple #[]) ∧ Only (fun _ => False) w w' := by
 have HL := hide (bitsLenR 0 (by omega))
 have HP := hide (pdqN)
 have wr : IntKind.u64.wrap 0 = 0 := by simp [IntKind.wrap, IntKind.bits, IntKind.signed]
 have wr2 : IntKind.u64.wrap ((0 : Nat) : Int) = ((0 : Nat) : Int) := by simp [IntKind.wrap, IntKind.bits, IntKind.signed]
 go_enter Tryz.func119, Tryz.ntmps119
 go_wp2_with (first | (go_at_call 161; refine (unhide HL _).mono ?_; rintro e w' ⟨rfl, rfl⟩) | (go_at_call 160; refine (unhide HP _ _).mono ?_; rintro e w1 ⟨rfl, hS⟩; have HS := hide hS; clear hS))
 go_end0
 exact ⟨rfl, unhide HS⟩
end Go.Proofs.YtnagphodmfejiaaGreatDoor
