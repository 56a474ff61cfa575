/- The reference's tokens, one by one. The reference's tokens of a pattern: as a function; tokens in memory. -/
import Derived.Test.YtnagphodmfejiaaGreatDoorKRefQ
import Derived.Deep.DeepCutAuto
namespace Go.Proofs.YtnagphodmfejiaaGreatDoor
open Go.RowKit
structure Tok where
 kind : Int
 neg : Bool
 parts : List Pt
 c : Int
 mn : Int
 mx : Int
namespace Ref
def wrongB (b : Int) : Bool := (b == 42) || (b == 43) || (b == 63) || (b == 123) || (b == 125) || (b == 93)
def tokenF (s : ByteArray) (st : St) : Tok × St :=
 if byteAt s st.i = 94 ∨ byteAt s st.i = 36 then (⟨2, false, [], byteAt s st.i, 0, 0⟩, st.go 1)
 else if byteAt s st.i = 92 ∧ (byteAt s (st.i + 1) = 98 ∨ byteAt s (st.i + 1) = 66) then (⟨2, false, [], byteAt s (st.i + 1), 0, 0⟩, st.go 2)
 else if byteAt s st.i = 124 then (⟨5, false, [], 0, 0, 0⟩, st.go 1)
 else if byteAt s st.i = 46 then (⟨1, true, [⟨false, [(10, 10), (13, 13), (8232, 8233)]⟩], 0, 0, 0⟩, st.go 1)
 else if byteAt s st.i = 91 then (⟨1, notB s (st.go 1), (classR s (st.go 1)).1, 0, 0, 0⟩, (classR s (st.go 1)).2)
 else if byteAt s st.i = 92 then (⟨1, false, [(escapeF s false st).1], 0, 0, 0⟩, (escapeF s false st).2.2)
 else if byteAt s st.i = 40 then (⟨3, false, [], 0, 0, 0⟩, openF s st)
 else if byteAt s st.i = 41 then (⟨4, false, [], 0, 0, 0⟩, st.go 1)
 else if wrongB (byteAt s st.i) = true then (⟨0, false, [], 0, 0, 0⟩, st.fail 3 st.i)
 else match oneF s st.i with
   | some (n, c) => (⟨1, false, [⟨false, [(c, c)]⟩], 0, 0, 0⟩, st.go n)
   | none => (⟨0, false, [], 0, 0, 0⟩, st)
end Ref
theorem parts_one (W : World) (n base : Nat) (hn : W.heap.size = n) (hb : base ≤ n) (c : Array Value) (p : Pt) (sv : Value) (hc : c.toList = [.bool p.neg, sv]) (hs : SpansAt W base sv p.spans) :
   PartsAt (W.alloc (.cells c 274)) base (.slice (some ⟨n, 0, none⟩) 1 1) [p] := by
 subst hn
 refine ⟨[.bool p.neg, sv], ⟨rfl, .inr ⟨W.heap.size, 1, c, rfl, hb, heap_alloc_new W _, Nat.le_refl _, by simp [maxLen], ?_, ?_⟩⟩, rfl, hs.keep ((Only.refl (fun _ => False) W).alloc _) (fun _ _ _ f => f), trivial⟩
 · rw [← Array.length_toList, hc]; rfl
 · rw [hc]; rfl
set_option maxHeartbeats 3200000 in
set_option maxRecDepth 100000 in
theorem token_any (b : Nat) (s : ByteArray) (st : St) (w : World) (h : Lex w b s st) (hs : s.size ≤ 400) (hi : st.i < s.size) (hg : Ref.Good s st.i) (he : st.e = 0) :
   Calls Tryz.prog 71 #[.pointer (some ⟨b, 0, none⟩)] w fun x w' =>
     ∃ pv, x = .returned (.agg #[.int .i64 (Ref.tokenF s st).1.kind, .bool (Ref.tokenF s st).1.neg, pv, .int .i64 (Ref.tokenF s st).1.c, .int .i64 (Ref.tokenF s st).1.mn, .int .i64 (Ref.tokenF s st).1.mx]) ∧
       PartsAt w' w.heap.size pv (Ref.tokenF s st).1.parts ∧ Lex w' b s (Ref.tokenF s st).2 ∧ Only (Mine b) w w' := by
 have hlt := h.lt
 have HE := hide he
 have HG := hide hg
 obtain ⟨on, oc, ho, hgn⟩ := hg.next hi
 have Ho := hide ho
 have Hgn := hide hgn
 clear he hg ho hgn
 have hL2 := hide (h.alloc (.cells #[.int .i64 0, .bool false, .slice none 0 0, .int .i64 0, .int .i64 0, .int .i64 0] 178))
 have hR2 := hide (Six.new (n := w.heap.size) (a0 := .int .i64 0) (a1 := .bool false) (a2 := .slice none 0 0) (a3 := .int .i64 0) (a4 := .int .i64 0) (a5 := .int .i64 0) w 178 rfl)
 have hO2 := hide ((Only.refl (Mine b) w).alloc (.cells #[.int .i64 0, .bool false, .slice none 0 0, .int .i64 0, .int .i64 0, .int .i64 0] 178))
 clear h
 have hwr : IntKind.i64.wrap ((st.i : Int) + 1) = (st.i : Int) + 1 := wrap_small _ (by omega) (by omega)
 go_enter Tryz.func71, Tryz.ntmps71
 go_wp2_with fail
 refine (now_abs b s st _ (unhide hL2) hs).mono ?_
 rintro e w1 ⟨rfl, hON⟩
 have hLN := (unhide hL2).keep hON (fun f => f)
 have hRN := (unhide hR2).keep hON (fun f => f)
 have hOO := hide ((unhide hO2).trans (hON.mono (fun _ _ f => f.elim)))
 have hLL := hide hLN
 have hRR := hide hRN
 clear hON hL2 hR2 hO2
 obtain ⟨l0, l1, l2, l3, k1, k2, k3⟩ := hLN
 go_wp2_with fail
 go_quiet (fail)
 go_upto_if 20 with fail
 go_cut [4] (fun s4 wx => s4 = .int .i64 (byteAt s (st.i + 1)) ∧ Only (fun _ => False) w1 wx)
 case first =>
   by_cases hn : st.i + 1 < s.size
   · have hix : ∀ wx, (Instr.index 9 (.string s) (.int .i64 ((st.i : Int) + 1))).run Tryz.prog wx = .ok (.int .u8 ((s[st.i + 1]'hn).toNat : Int)) wx := fun wx => run_index_at s (st.i + 1) hn _ (by omega) wx
     have hnd : (st.i : Int) + 1 < (s.size : Int) := by omega
     have hin := hide (byteAt_in s (st.i + 1) hn)
     go_wp2_with fail
     go_quiet (fail)
     go_wp2_with fail
     go_meet
     case rel => exact ⟨by rw [unhide hin]; first | rfl | (rw [byte_wrap]) | (congr 1; rw [IntKind.wrap_i64]; have := (s[st.i + 1]'hn).toNat_lt; omega), by first | exact ((Only.refl _ _).drewN _).drewN _ | exact (Only.refl _ _).drewN _⟩
   · have hnd : ¬ (st.i : Int) + 1 < (s.size : Int) := by omega
     have hout := hide (byteAt_out s (st.i + 1) (by omega))
     go_wp2_with fail
     go_meet
     case rel => exact ⟨by rw [unhide hout], ((Only.refl _ _).drewN _)⟩
 case rest =>
   obtain ⟨rfl, hcO⟩ := hcut
   have hLc := (unhide hLL).keep hcO (fun f => f)
   have hRc := (unhide hRR).keep hcO (fun f => f)
   have hO3 := hide ((unhide hOO).trans (hcO.mono (fun _ _ f => f.elim)))
   clear l0 l1 l2 l3 k1 k2 k3 hLL hRR hOO hwr hcO
   have hLL := hide hLc
   have hRR := hide hRc
   have hOO := hide (unhide hO3)
   clear hO3
   obtain ⟨l0, l1, l2, l3, k1, k2, k3⟩ := hLc
   obtain ⟨r0, r1, r2, r3, r4, r5, u0, u1, u2, u3, u4, u5⟩ := hRc
   by_cases x : byteAt s st.i = 94
   · skip
     have h94 : (byteAt s st.i == 94) = true := by simp [x]
     have h36 : (byteAt s st.i == 36) = false := by simp [x]
     have h92 : (byteAt s st.i == 92) = false := by simp [x]
     have h124 : (byteAt s st.i == 124) = false := by simp [x]
     have h46 : (byteAt s st.i == 46) = false := by simp [x]
     have h91 : (byteAt s st.i == 91) = false := by simp [x]
     have h40 : (byteAt s st.i == 40) = false := by simp [x]
     have h41 : (byteAt s st.i == 41) = false := by simp [x]
     have h42 : (byteAt s st.i == 42) = false := by simp [x]
     have h43 : (byteAt s st.i == 43) = false := by simp [x]
     have h63 : (byteAt s st.i == 63) = false := by simp [x]
     have h123 : (byteAt s st.i == 123) = false := by simp [x]
     have h125 : (byteAt s st.i == 125) = false := by simp [x]
     have h93 : (byteAt s st.i == 93) = false := by simp [x]
     have HH : Hid (Ref.tokenF s st = (⟨2, false, [], byteAt s st.i, 0, 0⟩, st.go 1)) := by show _ = _; unfold Ref.tokenF; rw [if_pos (Or.inl x)]
     clear x
     go_wp2_with fail
     refine bodyPost_ret (v := .agg #[.int .i64 2, .bool false, .slice none 0 0, .int .i64 (byteAt s st.i), .int .i64 0, .int .i64 0]) (by simp [results, Tryz.results71, go_sem, r0, r1, r2, r3, r4, r5]) rfl ?_
     rw [unhide HH]
     exact ⟨_, rfl, PartsAt.nil _ _, ((unhide hLL).setI _ 1 (by omega)).keep (Only.six w.heap.size _ _ _ _ _ _ _) (by unfold Mine; omega), ((unhide hOO).mine 1 _).young (Only.six w.heap.size _ _ _ _ _ _ _) (Nat.le_refl _)⟩
   have n94 := hide x
   clear x
   by_cases x : byteAt s st.i = 36
   · skip
     have h94 : (byteAt s st.i == 94) = false := by simp [x]
     have h36 : (byteAt s st.i == 36) = true := by simp [x]
     have h92 : (byteAt s st.i == 92) = false := by simp [x]
     have h124 : (byteAt s st.i == 124) = false := by simp [x]
     have h46 : (byteAt s st.i == 46) = false := by simp [x]
     have h91 : (byteAt s st.i == 91) = false := by simp [x]
     have h40 : (byteAt s st.i == 40) = false := by simp [x]
     have h41 : (byteAt s st.i == 41) = false := by simp [x]
     have h42 : (byteAt s st.i == 42) = false := by simp [x]
     have h43 : (byteAt s st.i == 43) = false := by simp [x]
     have h63 : (byteAt s st.i == 63) = false := by simp [x]
     have h123 : (byteAt s st.i == 123) = false := by simp [x]
     have h125 : (byteAt s st.i == 125) = false := by simp [x]
     have h93 : (byteAt s st.i == 93) = false := by simp [x]
     have HH : Hid (Ref.tokenF s st = (⟨2, false, [], byteAt s st.i, 0, 0⟩, st.go 1)) := by show _ = _; unfold Ref.tokenF; rw [if_pos (Or.inr x)]
     clear x
     go_wp2_with fail
     refine bodyPost_ret (v := .agg #[.int .i64 2, .bool false, .slice none 0 0, .int .i64 (byteAt s st.i), .int .i64 0, .int .i64 0]) (by simp [results, Tryz.results71, go_sem, r0, r1, r2, r3, r4, r5]) rfl ?_
     rw [unhide HH]
     exact ⟨_, rfl, PartsAt.nil _ _, ((unhide hLL).setI _ 1 (by omega)).keep (Only.six w.heap.size _ _ _ _ _ _ _) (by unfold Mine; omega), ((unhide hOO).mine 1 _).young (Only.six w.heap.size _ _ _ _ _ _ _) (Nat.le_refl _)⟩
   have n36 := hide x
   clear x
   by_cases x : byteAt s st.i = 92
   · skip
     have h94 : (byteAt s st.i == 94) = false := by simp [x]
     have h36 : (byteAt s st.i == 36) = false := by simp [x]
     have h92 : (byteAt s st.i == 92) = true := by simp [x]
     have h124 : (byteAt s st.i == 124) = false := by simp [x]
     have h46 : (byteAt s st.i == 46) = false := by simp [x]
     have h91 : (byteAt s st.i == 91) = false := by simp [x]
     have h40 : (byteAt s st.i == 40) = false := by simp [x]
     have h41 : (byteAt s st.i == 41) = false := by simp [x]
     have h42 : (byteAt s st.i == 42) = false := by simp [x]
     have h43 : (byteAt s st.i == 43) = false := by simp [x]
     have h63 : (byteAt s st.i == 63) = false := by simp [x]
     have h123 : (byteAt s st.i == 123) = false := by simp [x]
     have h125 : (byteAt s st.i == 125) = false := by simp [x]
     have h93 : (byteAt s st.i == 93) = false := by simp [x]
     by_cases y : byteAt s (st.i + 1) = 98
     · have y1 : (byteAt s (st.i + 1) == 98) = true := by simp [y]
       have HH : Hid (Ref.tokenF s st = (⟨2, false, [], byteAt s (st.i + 1), 0, 0⟩, st.go 2)) := by show _ = _; unfold Ref.tokenF; rw [if_neg (by omega), if_pos ⟨x, by omega⟩]
       clear x y
       go_wp2_with fail
       refine bodyPost_ret (v := .agg #[.int .i64 2, .bool false, .slice none 0 0, .int .i64 (byteAt s (st.i + 1)), .int .i64 0, .int .i64 0]) (by simp [results, Tryz.results71, go_sem, r0, r1, r2, r3, r4, r5]) rfl ?_
       rw [unhide HH]
       exact ⟨_, rfl, PartsAt.nil _ _, ((unhide hLL).setI _ 2 (by omega)).keep (Only.six w.heap.size _ _ _ _ _ _ _) (by unfold Mine; omega), ((unhide hOO).mine 1 _).young (Only.six w.heap.size _ _ _ _ _ _ _) (Nat.le_refl _)⟩
     have z98 : (byteAt s (st.i + 1) == 98) = false := by simp [y]
     have Z98 := hide y
     clear y
     by_cases y : byteAt s (st.i + 1) = 66
     · have y1 : (byteAt s (st.i + 1) == 66) = true := by simp [y]
       have y2 : (byteAt s (st.i + 1) == 98) = false := by simp [y]
       have HH : Hid (Ref.tokenF s st = (⟨2, false, [], byteAt s (st.i + 1), 0, 0⟩, st.go 2)) := by show _ = _; unfold Ref.tokenF; rw [if_neg (by omega), if_pos ⟨x, by omega⟩]
       clear x y
       go_wp2_with fail
       refine bodyPost_ret (v := .agg #[.int .i64 2, .bool false, .slice none 0 0, .int .i64 (byteAt s (st.i + 1)), .int .i64 0, .int .i64 0]) (by simp [results, Tryz.results71, go_sem, r0, r1, r2, r3, r4, r5]) rfl ?_
       rw [unhide HH]
       exact ⟨_, rfl, PartsAt.nil _ _, ((unhide hLL).setI _ 2 (by omega)).keep (Only.six w.heap.size _ _ _ _ _ _ _) (by unfold Mine; omega), ((unhide hOO).mine 1 _).young (Only.six w.heap.size _ _ _ _ _ _ _) (Nat.le_refl _)⟩
     have z66 : (byteAt s (st.i + 1) == 66) = false := by simp [y]
     have Z66 := hide y
     clear y
     have HH : Hid (Ref.tokenF s st = (⟨1, false, [(Ref.escapeF s false st).1], 0, 0, 0⟩, (Ref.escapeF s false st).2.2)) := by
       show _ = _; unfold Ref.tokenF
       have q1 := unhide Z98
       have q2 := unhide Z66
       rw [if_neg (by omega), if_neg (by omega), if_neg (by omega), if_neg (by omega), if_neg (by omega), if_pos x]
     clear x
     go_wp2_with fail
     refine (escape_any b s false st _ (unhide hLL) hs hi).mono ?_
     rintro e w5 ⟨sv, rfl, hsp, hL5, hO5⟩
     have hR5 := (unhide hRR).keep hO5 (by unfold Mine; omega)
     obtain ⟨sa, sn, sc, rfl⟩ := own_slice hsp
     have HS := hide (hsp.base (base' := w.heap.size + 1) (by have := Six.lt (unhide hRR); omega))
     have HL5 := hide hL5
     have HO5 := hide ((unhide hOO).trans hO5)
     have hsz5 : w.heap.size < w5.heap.size := hR5.lt
     clear hsp hL5 hO5 l0 l1 l2 l3 k1 k2 k3 r0 r1 r2 r3 r4 r5 u0 u1 u2 u3 u4 u5
     obtain ⟨r0, r1, r2, r3, r4, r5, u0, u1, u2, u3, u4, u5⟩ := hR5
     go_wp2_with fail
     refine bodyPost_ret (v := .agg #[.int .i64 1, .bool false, .slice (some ⟨w5.heap.size + 1, 0, none⟩) 1 1, .int .i64 0, .int .i64 0, .int .i64 0]) (by simp [results, Tryz.results71, go_sem, r0, r1, r2, r3, r4, r5, hsz5]) rfl ?_
     rw [unhide HH]
     refine ⟨_, rfl, ?_, ?_, ?_⟩
     · exact parts_one _ _ _ (by simp) (by omega) _ (Ref.escapeF s false st).1 (.slice sa sn sc) rfl (((unhide HS).keep ((Only.six w.heap.size w5 _ _ _ _ _ _).alloc _) (by intro g hg _ hh; unfold Mine at hh; omega)).base (by omega))
     · exact (((unhide HL5).keep (Only.six w.heap.size _ _ _ _ _ _ _) (by unfold Mine; omega)).alloc _).alloc _
     · exact (((unhide HO5).young (Only.six w.heap.size _ _ _ _ _ _ _) (Nat.le_refl _)).alloc _).alloc _
   have n92 := hide x
   clear x
   by_cases x : byteAt s st.i = 124
   · skip
     have h94 : (byteAt s st.i == 94) = false := by simp [x]
     have h36 : (byteAt s st.i == 36) = false := by simp [x]
     have h92 : (byteAt s st.i == 92) = false := by simp [x]
     have h124 : (byteAt s st.i == 124) = true := by simp [x]
     have h46 : (byteAt s st.i == 46) = false := by simp [x]
     have h91 : (byteAt s st.i == 91) = false := by simp [x]
     have h40 : (byteAt s st.i == 40) = false := by simp [x]
     have h41 : (byteAt s st.i == 41) = false := by simp [x]
     have h42 : (byteAt s st.i == 42) = false := by simp [x]
     have h43 : (byteAt s st.i == 43) = false := by simp [x]
     have h63 : (byteAt s st.i == 63) = false := by simp [x]
     have h123 : (byteAt s st.i == 123) = false := by simp [x]
     have h125 : (byteAt s st.i == 125) = false := by simp [x]
     have h93 : (byteAt s st.i == 93) = false := by simp [x]
     have HH : Hid (Ref.tokenF s st = (⟨5, false, [], 0, 0, 0⟩, st.go 1)) := by show _ = _; unfold Ref.tokenF; rw [if_neg (by omega), if_neg (by omega), if_pos x]
     clear x
     go_wp2_with fail
     refine bodyPost_ret (v := .agg #[.int .i64 5, .bool false, .slice none 0 0, .int .i64 (0), .int .i64 0, .int .i64 0]) (by simp [results, Tryz.results71, go_sem, r0, r1, r2, r3, r4, r5]) rfl ?_
     rw [unhide HH]
     exact ⟨_, rfl, PartsAt.nil _ _, ((unhide hLL).setI _ 1 (by omega)).keep (Only.six w.heap.size _ _ _ _ _ _ _) (by unfold Mine; omega), ((unhide hOO).mine 1 _).young (Only.six w.heap.size _ _ _ _ _ _ _) (Nat.le_refl _)⟩
   have n124 := hide x
   clear x
   by_cases x : byteAt s st.i = 41
   · skip
     have h94 : (byteAt s st.i == 94) = false := by simp [x]
     have h36 : (byteAt s st.i == 36) = false := by simp [x]
     have h92 : (byteAt s st.i == 92) = false := by simp [x]
     have h124 : (byteAt s st.i == 124) = false := by simp [x]
     have h46 : (byteAt s st.i == 46) = false := by simp [x]
     have h91 : (byteAt s st.i == 91) = false := by simp [x]
     have h40 : (byteAt s st.i == 40) = false := by simp [x]
     have h41 : (byteAt s st.i == 41) = true := by simp [x]
     have h42 : (byteAt s st.i == 42) = false := by simp [x]
     have h43 : (byteAt s st.i == 43) = false := by simp [x]
     have h63 : (byteAt s st.i == 63) = false := by simp [x]
     have h123 : (byteAt s st.i == 123) = false := by simp [x]
     have h125 : (byteAt s st.i == 125) = false := by simp [x]
     have h93 : (byteAt s st.i == 93) = false := by simp [x]
     have HH : Hid (Ref.tokenF s st = (⟨4, false, [], 0, 0, 0⟩, st.go 1)) := by show _ = _; unfold Ref.tokenF; rw [if_neg (by omega), if_neg (by omega), if_neg (by omega), if_neg (by omega), if_neg (by omega), if_neg (by omega), if_neg (by omega), if_pos x]
     clear x
     go_wp2_with fail
     refine bodyPost_ret (v := .agg #[.int .i64 4, .bool false, .slice none 0 0, .int .i64 (0), .int .i64 0, .int .i64 0]) (by simp [results, Tryz.results71, go_sem, r0, r1, r2, r3, r4, r5]) rfl ?_
     rw [unhide HH]
     exact ⟨_, rfl, PartsAt.nil _ _, ((unhide hLL).setI _ 1 (by omega)).keep (Only.six w.heap.size _ _ _ _ _ _ _) (by unfold Mine; omega), ((unhide hOO).mine 1 _).young (Only.six w.heap.size _ _ _ _ _ _ _) (Nat.le_refl _)⟩
   have n41 := hide x
   clear x
   by_cases x : byteAt s st.i = 46
   · skip
     have h94 : (byteAt s st.i == 94) = false := by simp [x]
     have h36 : (byteAt s st.i == 36) = false := by simp [x]
     have h92 : (byteAt s st.i == 92) = false := by simp [x]
     have h124 : (byteAt s st.i == 124) = false := by simp [x]
     have h46 : (byteAt s st.i == 46) = true := by simp [x]
     have h91 : (byteAt s st.i == 91) = false := by simp [x]
     have h40 : (byteAt s st.i == 40) = false := by simp [x]
     have h41 : (byteAt s st.i == 41) = false := by simp [x]
     have h42 : (byteAt s st.i == 42) = false := by simp [x]
     have h43 : (byteAt s st.i == 43) = false := by simp [x]
     have h63 : (byteAt s st.i == 63) = false := by simp [x]
     have h123 : (byteAt s st.i == 123) = false := by simp [x]
     have h125 : (byteAt s st.i == 125) = false := by simp [x]
     have h93 : (byteAt s st.i == 93) = false := by simp [x]
     have HH : Hid (Ref.tokenF s st = (⟨1, true, [⟨false, [(10, 10), (13, 13), (8232, 8233)]⟩], 0, 0, 0⟩, st.go 1)) := by show _ = _; unfold Ref.tokenF; rw [if_neg (by omega), if_neg (by omega), if_neg (by omega), if_pos x]
     have hszc : w.heap.size < wc.heap.size := (unhide hRR).lt
     clear x
     go_wp2_with fail
     refine bodyPost_ret (v := .agg #[.int .i64 1, .bool true, .slice (some ⟨wc.heap.size + 1, 0, none⟩) 1 1, .int .i64 0, .int .i64 0, .int .i64 0]) (by simp [results, Tryz.results71, go_sem, r0, r1, r2, r3, r4, r5, hszc]) rfl ?_
     rw [unhide HH]
     refine ⟨_, rfl, ?_, ?_, ?_⟩
     · exact parts_one _ _ _ (by simp) (by omega) _ ⟨false, [(10, 10), (13, 13), (8232, 8233)]⟩ (.slice (some ⟨wc.heap.size, 0, none⟩) 3 3) rfl (spans_new' _ _ _ (by simp) (by omega) _ [(10, 10), (13, 13), (8232, 8233)] rfl (by simp [maxLen]) 3 rfl)
     · exact ((((unhide hLL).setI _ 1 (by omega)).keep (Only.six w.heap.size _ _ _ _ _ _ _) (by unfold Mine; omega)).alloc _).alloc _
     · exact ((((unhide hOO).mine 1 _).young (Only.six w.heap.size _ _ _ _ _ _ _) (Nat.le_refl _)).alloc _).alloc _
   have n46 := hide x
   clear x
   by_cases x : byteAt s st.i = 91
   · skip
     have h94 : (byteAt s st.i == 94) = false := by simp [x]
     have h36 : (byteAt s st.i == 36) = false := by simp [x]
     have h92 : (byteAt s st.i == 92) = false := by simp [x]
     have h124 : (byteAt s st.i == 124) = false := by simp [x]
     have h46 : (byteAt s st.i == 46) = false := by simp [x]
     have h91 : (byteAt s st.i == 91) = true := by simp [x]
     have h40 : (byteAt s st.i == 40) = false := by simp [x]
     have h41 : (byteAt s st.i == 41) = false := by simp [x]
     have h42 : (byteAt s st.i == 42) = false := by simp [x]
     have h43 : (byteAt s st.i == 43) = false := by simp [x]
     have h63 : (byteAt s st.i == 63) = false := by simp [x]
     have h123 : (byteAt s st.i == 123) = false := by simp [x]
     have h125 : (byteAt s st.i == 125) = false := by simp [x]
     have h93 : (byteAt s st.i == 93) = false := by simp [x]
     have HH : Hid (Ref.tokenF s st = (⟨1, Ref.notB s (st.go 1), (Ref.classR s (st.go 1)).1, 0, 0, 0⟩, (Ref.classR s (st.go 1)).2)) := by show _ = _; unfold Ref.tokenF; rw [if_neg (by omega), if_neg (by omega), if_neg (by omega), if_neg (by omega), if_pos x]
     have hg1 : Ref.Good s (st.go 1).i := (unhide HG).ascii (by omega) (by omega)
     clear x
     go_wp2_with fail
     have hA := (Only.refl (Mine b) wc).mine 1 (.int .i64 ((st.i : Int) + 1))
     refine (class_any b s (st.go 1) _ ((unhide hLL).setI ((st.i : Int) + 1) 1 (by omega)) hs hg1 (unhide HE)).mono ?_
     rintro e w5 ⟨pv, rfl, hpt, hL5, hO5⟩
     have hB := hA.trans hO5
     have hR5 := (unhide hRR).keep hB (by unfold Mine; omega)
     obtain ⟨cs, hpo, hpk⟩ := hpt
     obtain ⟨sa, sn, sc, rfl⟩ := own_slice hpo
     have HP := hide (PartsAt.base (base' := w.heap.size + 1) (show PartsAt w5 _ _ _ from ⟨cs, hpo, hpk⟩) (by have := Six.lt (unhide hRR); simp; omega))
     have HL5 := hide hL5
     have HO5 := hide ((unhide hOO).trans hB)
     clear hpo hpk hL5 hO5 hA hB l0 l1 l2 l3 k1 k2 k3 r0 r1 r2 r3 r4 r5 u0 u1 u2 u3 u4 u5
     obtain ⟨r0, r1, r2, r3, r4, r5, u0, u1, u2, u3, u4, u5⟩ := hR5
     go_wp2_with fail
     refine bodyPost_ret (v := .agg #[.int .i64 1, .bool (Ref.notB s (st.go 1)), .slice sa sn sc, .int .i64 0, .int .i64 0, .int .i64 0]) (by simp [results, Tryz.results71, go_sem, r0, r1, r2, r3, r4, r5]) rfl ?_
     rw [unhide HH]
     exact ⟨_, rfl, ((unhide HP).keep (Only.six w.heap.size _ _ _ _ _ _ _) (by intro g hg _ hh; unfold Mine at hh; omega)).base (by omega), (unhide HL5).keep (Only.six w.heap.size _ _ _ _ _ _ _) (by unfold Mine; omega), (unhide HO5).young (Only.six w.heap.size _ _ _ _ _ _ _) (Nat.le_refl _)⟩
   have n91 := hide x
   clear x
   by_cases x : byteAt s st.i = 40
   · skip
     have h94 : (byteAt s st.i == 94) = false := by simp [x]
     have h36 : (byteAt s st.i == 36) = false := by simp [x]
     have h92 : (byteAt s st.i == 92) = false := by simp [x]
     have h124 : (byteAt s st.i == 124) = false := by simp [x]
     have h46 : (byteAt s st.i == 46) = false := by simp [x]
     have h91 : (byteAt s st.i == 91) = false := by simp [x]
     have h40 : (byteAt s st.i == 40) = true := by simp [x]
     have h41 : (byteAt s st.i == 41) = false := by simp [x]
     have h42 : (byteAt s st.i == 42) = false := by simp [x]
     have h43 : (byteAt s st.i == 43) = false := by simp [x]
     have h63 : (byteAt s st.i == 63) = false := by simp [x]
     have h123 : (byteAt s st.i == 123) = false := by simp [x]
     have h125 : (byteAt s st.i == 125) = false := by simp [x]
     have h93 : (byteAt s st.i == 93) = false := by simp [x]
     have HH : Hid (Ref.tokenF s st = (⟨3, false, [], 0, 0, 0⟩, Ref.openF s st)) := by show _ = _; unfold Ref.tokenF; rw [if_neg (by omega), if_neg (by omega), if_neg (by omega), if_neg (by omega), if_neg (by omega), if_neg (by omega), if_pos x]
     clear x
     go_wp2_with fail
     refine (open_any b s st _ (unhide hLL) hs hi).mono ?_
     rintro e w5 ⟨rfl, hL5, hO5⟩
     have hR5 := (unhide hRR).keep hO5 (by unfold Mine; omega)
     have HL5 := hide hL5
     have HO5 := hide ((unhide hOO).trans hO5)
     clear hL5 hO5 l0 l1 l2 l3 k1 k2 k3 r0 r1 r2 r3 r4 r5 u0 u1 u2 u3 u4 u5
     obtain ⟨r0, r1, r2, r3, r4, r5, u0, u1, u2, u3, u4, u5⟩ := hR5
     go_wp2_with fail
     refine bodyPost_ret (v := .agg #[.int .i64 3, .bool false, .slice none 0 0, .int .i64 (0), .int .i64 0, .int .i64 0]) (by simp [results, Tryz.results71, go_sem, r0, r1, r2, r3, r4, r5]) rfl ?_
     rw [unhide HH]
     exact ⟨_, rfl, PartsAt.nil _ _, (unhide HL5).keep (Only.six w.heap.size _ _ _ _ _ _ _) (by unfold Mine; omega), (unhide HO5).young (Only.six w.heap.size _ _ _ _ _ _ _) (Nat.le_refl _)⟩
   have n40 := hide x
   clear x
   by_cases x : byteAt s st.i = 42
   · skip
     have h94 : (byteAt s st.i == 94) = false := by simp [x]
     have h36 : (byteAt s st.i == 36) = false := by simp [x]
     have h92 : (byteAt s st.i == 92) = false := by simp [x]
     have h124 : (byteAt s st.i == 124) = false := by simp [x]
     have h46 : (byteAt s st.i == 46) = false := by simp [x]
     have h91 : (byteAt s st.i == 91) = false := by simp [x]
     have h40 : (byteAt s st.i == 40) = false := by simp [x]
     have h41 : (byteAt s st.i == 41) = false := by simp [x]
     have h42 : (byteAt s st.i == 42) = true := by simp [x]
     have h43 : (byteAt s st.i == 43) = false := by simp [x]
     have h63 : (byteAt s st.i == 63) = false := by simp [x]
     have h123 : (byteAt s st.i == 123) = false := by simp [x]
     have h125 : (byteAt s st.i == 125) = false := by simp [x]
     have h93 : (byteAt s st.i == 93) = false := by simp [x]
     have HH : Hid (Ref.tokenF s st = (⟨0, false, [], 0, 0, 0⟩, st.fail 3 st.i)) := by show _ = _; unfold Ref.tokenF; rw [if_neg (by omega), if_neg (by omega), if_neg (by omega), if_neg (by omega), if_neg (by omega), if_neg (by omega), if_neg (by omega), if_neg (by omega), if_pos (by simp [Ref.wrongB, x])]
     clear x
     go_wp2_with fail
     refine (fail_lex b s st 3 _ _ (unhide hLL)).mono ?_
     rintro e w5 ⟨rfl, hL5, hO5⟩
     have hR5 := (unhide hRR).keep hO5 (by unfold Mine; omega)
     have HL5 := hide hL5
     have HO5 := hide ((unhide hOO).trans hO5)
     clear hL5 hO5 l0 l1 l2 l3 k1 k2 k3 r0 r1 r2 r3 r4 r5 u0 u1 u2 u3 u4 u5
     obtain ⟨r0, r1, r2, r3, r4, r5, u0, u1, u2, u3, u4, u5⟩ := hR5
     go_wp2_with fail
     refine bodyPost_ret (v := .agg #[.int .i64 0, .bool false, .slice none 0 0, .int .i64 (0), .int .i64 0, .int .i64 0]) (by simp [results, Tryz.results71, go_sem, r0, r1, r2, r3, r4, r5]) rfl ?_
     rw [unhide HH]
     exact ⟨_, rfl, PartsAt.nil _ _, (unhide HL5).keep (Only.six w.heap.size _ _ _ _ _ _ _) (by unfold Mine; omega), (unhide HO5).young (Only.six w.heap.size _ _ _ _ _ _ _) (Nat.le_refl _)⟩
   have n42 := hide x
   clear x
   by_cases x : byteAt s st.i = 43
   · skip
     have h94 : (byteAt s st.i == 94) = false := by simp [x]
     have h36 : (byteAt s st.i == 36) = false := by simp [x]
     have h92 : (byteAt s st.i == 92) = false := by simp [x]
     have h124 : (byteAt s st.i == 124) = false := by simp [x]
     have h46 : (byteAt s st.i == 46) = false := by simp [x]
     have h91 : (byteAt s st.i == 91) = false := by simp [x]
     have h40 : (byteAt s st.i == 40) = false := by simp [x]
     have h41 : (byteAt s st.i == 41) = false := by simp [x]
     have h42 : (byteAt s st.i == 42) = false := by simp [x]
     have h43 : (byteAt s st.i == 43) = true := by simp [x]
     have h63 : (byteAt s st.i == 63) = false := by simp [x]
     have h123 : (byteAt s st.i == 123) = false := by simp [x]
     have h125 : (byteAt s st.i == 125) = false := by simp [x]
     have h93 : (byteAt s st.i == 93) = false := by simp [x]
     have HH : Hid (Ref.tokenF s st = (⟨0, false, [], 0, 0, 0⟩, st.fail 3 st.i)) := by show _ = _; unfold Ref.tokenF; rw [if_neg (by omega), if_neg (by omega), if_neg (by omega), if_neg (by omega), if_neg (by omega), if_neg (by omega), if_neg (by omega), if_neg (by omega), if_pos (by simp [Ref.wrongB, x])]
     clear x
     go_wp2_with fail
     refine (fail_lex b s st 3 _ _ (unhide hLL)).mono ?_
     rintro e w5 ⟨rfl, hL5, hO5⟩
     have hR5 := (unhide hRR).keep hO5 (by unfold Mine; omega)
     have HL5 := hide hL5
     have HO5 := hide ((unhide hOO).trans hO5)
     clear hL5 hO5 l0 l1 l2 l3 k1 k2 k3 r0 r1 r2 r3 r4 r5 u0 u1 u2 u3 u4 u5
     obtain ⟨r0, r1, r2, r3, r4, r5, u0, u1, u2, u3, u4, u5⟩ := hR5
     go_wp2_with fail
     refine bodyPost_ret (v := .agg #[.int .i64 0, .bool false, .slice none 0 0, .int .i64 (0), .int .i64 0, .int .i64 0]) (by simp [results, Tryz.results71, go_sem, r0, r1, r2, r3, r4, r5]) rfl ?_
     rw [unhide HH]
     exact ⟨_, rfl, PartsAt.nil _ _, (unhide HL5).keep (Only.six w.heap.size _ _ _ _ _ _ _) (by unfold Mine; omega), (unhide HO5).young (Only.six w.heap.size _ _ _ _ _ _ _) (Nat.le_refl _)⟩
   have n43 := hide x
   clear x
   by_cases x : byteAt s st.i = 63
   · skip
     have h94 : (byteAt s st.i == 94) = false := by simp [x]
     have h36 : (byteAt s st.i == 36) = false := by simp [x]
     have h92 : (byteAt s st.i == 92) = false := by simp [x]
     have h124 : (byteAt s st.i == 124) = false := by simp [x]
     have h46 : (byteAt s st.i == 46) = false := by simp [x]
     have h91 : (byteAt s st.i == 91) = false := by simp [x]
     have h40 : (byteAt s st.i == 40) = false := by simp [x]
     have h41 : (byteAt s st.i == 41) = false := by simp [x]
     have h42 : (byteAt s st.i == 42) = false := by simp [x]
     have h43 : (byteAt s st.i == 43) = false := by simp [x]
     have h63 : (byteAt s st.i == 63) = true := by simp [x]
     have h123 : (byteAt s st.i == 123) = false := by simp [x]
     have h125 : (byteAt s st.i == 125) = false := by simp [x]
     have h93 : (byteAt s st.i == 93) = false := by simp [x]
     have HH : Hid (Ref.tokenF s st = (⟨0, false, [], 0, 0, 0⟩, st.fail 3 st.i)) := by show _ = _; unfold Ref.tokenF; rw [if_neg (by omega), if_neg (by omega), if_neg (by omega), if_neg (by omega), if_neg (by omega), if_neg (by omega), if_neg (by omega), if_neg (by omega), if_pos (by simp [Ref.wrongB, x])]
     clear x
     go_wp2_with fail
     refine (fail_lex b s st 3 _ _ (unhide hLL)).mono ?_
     rintro e w5 ⟨rfl, hL5, hO5⟩
     have hR5 := (unhide hRR).keep hO5 (by unfold Mine; omega)
     have HL5 := hide hL5
     have HO5 := hide ((unhide hOO).trans hO5)
     clear hL5 hO5 l0 l1 l2 l3 k1 k2 k3 r0 r1 r2 r3 r4 r5 u0 u1 u2 u3 u4 u5
     obtain ⟨r0, r1, r2, r3, r4, r5, u0, u1, u2, u3, u4, u5⟩ := hR5
     go_wp2_with fail
     refine bodyPost_ret (v := .agg #[.int .i64 0, .bool false, .slice none 0 0, .int .i64 (0), .int .i64 0, .int .i64 0]) (by simp [results, Tryz.results71, go_sem, r0, r1, r2, r3, r4, r5]) rfl ?_
     rw [unhide HH]
     exact ⟨_, rfl, PartsAt.nil _ _, (unhide HL5).keep (Only.six w.heap.size _ _ _ _ _ _ _) (by unfold Mine; omega), (unhide HO5).young (Only.six w.heap.size _ _ _ _ _ _ _) (Nat.le_refl _)⟩
   have n63 := hide x
   clear x
   by_cases x : byteAt s st.i = 123
   · skip
     have h94 : (byteAt s st.i == 94) = false := by simp [x]
     have h36 : (byteAt s st.i == 36) = false := by simp [x]
     have h92 : (byteAt s st.i == 92) = false := by simp [x]
     have h124 : (byteAt s st.i == 124) = false := by simp [x]
     have h46 : (byteAt s st.i == 46) = false := by simp [x]
     have h91 : (byteAt s st.i == 91) = false := by simp [x]
     have h40 : (byteAt s st.i == 40) = false := by simp [x]
     have h41 : (byteAt s st.i == 41) = false := by simp [x]
     have h42 : (byteAt s st.i == 42) = false := by simp [x]
     have h43 : (byteAt s st.i == 43) = false := by simp [x]
     have h63 : (byteAt s st.i == 63) = false := by simp [x]
     have h123 : (byteAt s st.i == 123) = true := by simp [x]
     have h125 : (byteAt s st.i == 125) = false := by simp [x]
     have h93 : (byteAt s st.i == 93) = false := by simp [x]
     have HH : Hid (Ref.tokenF s st = (⟨0, false, [], 0, 0, 0⟩, st.fail 3 st.i)) := by show _ = _; unfold Ref.tokenF; rw [if_neg (by omega), if_neg (by omega), if_neg (by omega), if_neg (by omega), if_neg (by omega), if_neg (by omega), if_neg (by omega), if_neg (by omega), if_pos (by simp [Ref.wrongB, x])]
     clear x
     go_wp2_with fail
     refine (fail_lex b s st 3 _ _ (unhide hLL)).mono ?_
     rintro e w5 ⟨rfl, hL5, hO5⟩
     have hR5 := (unhide hRR).keep hO5 (by unfold Mine; omega)
     have HL5 := hide hL5
     have HO5 := hide ((unhide hOO).trans hO5)
     clear hL5 hO5 l0 l1 l2 l3 k1 k2 k3 r0 r1 r2 r3 r4 r5 u0 u1 u2 u3 u4 u5
     obtain ⟨r0, r1, r2, r3, r4, r5, u0, u1, u2, u3, u4, u5⟩ := hR5
     go_wp2_with fail
     refine bodyPost_ret (v := .agg #[.int .i64 0, .bool false, .slice none 0 0, .int .i64 (0), .int .i64 0, .int .i64 0]) (by simp [results, Tryz.results71, go_sem, r0, r1, r2, r3, r4, r5]) rfl ?_
     rw [unhide HH]
     exact ⟨_, rfl, PartsAt.nil _ _, (unhide HL5).keep (Only.six w.heap.size _ _ _ _ _ _ _) (by unfold Mine; omega), (unhide HO5).young (Only.six w.heap.size _ _ _ _ _ _ _) (Nat.le_refl _)⟩
   have n123 := hide x
   clear x
   by_cases x : byteAt s st.i = 125
   · skip
     have h94 : (byteAt s st.i == 94) = false := by simp [x]
     have h36 : (byteAt s st.i == 36) = false := by simp [x]
     have h92 : (byteAt s st.i == 92) = false := by simp [x]
     have h124 : (byteAt s st.i == 124) = false := by simp [x]
     have h46 : (byteAt s st.i == 46) = false := by simp [x]
     have h91 : (byteAt s st.i == 91) = false := by simp [x]
     have h40 : (byteAt s st.i == 40) = false := by simp [x]
     have h41 : (byteAt s st.i == 41) = false := by simp [x]
     have h42 : (byteAt s st.i == 42) = false := by simp [x]
     have h43 : (byteAt s st.i == 43) = false := by simp [x]
     have h63 : (byteAt s st.i == 63) = false := by simp [x]
     have h123 : (byteAt s st.i == 123) = false := by simp [x]
     have h125 : (byteAt s st.i == 125) = true := by simp [x]
     have h93 : (byteAt s st.i == 93) = false := by simp [x]
     have HH : Hid (Ref.tokenF s st = (⟨0, false, [], 0, 0, 0⟩, st.fail 3 st.i)) := by show _ = _; unfold Ref.tokenF; rw [if_neg (by omega), if_neg (by omega), if_neg (by omega), if_neg (by omega), if_neg (by omega), if_neg (by omega), if_neg (by omega), if_neg (by omega), if_pos (by simp [Ref.wrongB, x])]
     clear x
     go_wp2_with fail
     refine (fail_lex b s st 3 _ _ (unhide hLL)).mono ?_
     rintro e w5 ⟨rfl, hL5, hO5⟩
     have hR5 := (unhide hRR).keep hO5 (by unfold Mine; omega)
     have HL5 := hide hL5
     have HO5 := hide ((unhide hOO).trans hO5)
     clear hL5 hO5 l0 l1 l2 l3 k1 k2 k3 r0 r1 r2 r3 r4 r5 u0 u1 u2 u3 u4 u5
     obtain ⟨r0, r1, r2, r3, r4, r5, u0, u1, u2, u3, u4, u5⟩ := hR5
     go_wp2_with fail
     refine bodyPost_ret (v := .agg #[.int .i64 0, .bool false, .slice none 0 0, .int .i64 (0), .int .i64 0, .int .i64 0]) (by simp [results, Tryz.results71, go_sem, r0, r1, r2, r3, r4, r5]) rfl ?_
     rw [unhide HH]
     exact ⟨_, rfl, PartsAt.nil _ _, (unhide HL5).keep (Only.six w.heap.size _ _ _ _ _ _ _) (by unfold Mine; omega), (unhide HO5).young (Only.six w.heap.size _ _ _ _ _ _ _) (Nat.le_refl _)⟩
   have n125 := hide x
   clear x
   by_cases x : byteAt s st.i = 93
   · skip
     have h94 : (byteAt s st.i == 94) = false := by simp [x]
     have h36 : (byteAt s st.i == 36) = false := by simp [x]
     have h92 : (byteAt s st.i == 92) = false := by simp [x]
     have h124 : (byteAt s st.i == 124) = false := by simp [x]
     have h46 : (byteAt s st.i == 46) = false := by simp [x]
     have h91 : (byteAt s st.i == 91) = false := by simp [x]
     have h40 : (byteAt s st.i == 40) = false := by simp [x]
     have h41 : (byteAt s st.i == 41) = false := by simp [x]
     have h42 : (byteAt s st.i == 42) = false := by simp [x]
     have h43 : (byteAt s st.i == 43) = false := by simp [x]
     have h63 : (byteAt s st.i == 63) = false := by simp [x]
     have h123 : (byteAt s st.i == 123) = false := by simp [x]
     have h125 : (byteAt s st.i == 125) = false := by simp [x]
     have h93 : (byteAt s st.i == 93) = true := by simp [x]
     have HH : Hid (Ref.tokenF s st = (⟨0, false, [], 0, 0, 0⟩, st.fail 3 st.i)) := by show _ = _; unfold Ref.tokenF; rw [if_neg (by omega), if_neg (by omega), if_neg (by omega), if_neg (by omega), if_neg (by omega), if_neg (by omega), if_neg (by omega), if_neg (by omega), if_pos (by simp [Ref.wrongB, x])]
     clear x
     go_wp2_with fail
     refine (fail_lex b s st 3 _ _ (unhide hLL)).mono ?_
     rintro e w5 ⟨rfl, hL5, hO5⟩
     have hR5 := (unhide hRR).keep hO5 (by unfold Mine; omega)
     have HL5 := hide hL5
     have HO5 := hide ((unhide hOO).trans hO5)
     clear hL5 hO5 l0 l1 l2 l3 k1 k2 k3 r0 r1 r2 r3 r4 r5 u0 u1 u2 u3 u4 u5
     obtain ⟨r0, r1, r2, r3, r4, r5, u0, u1, u2, u3, u4, u5⟩ := hR5
     go_wp2_with fail
     refine bodyPost_ret (v := .agg #[.int .i64 0, .bool false, .slice none 0 0, .int .i64 (0), .int .i64 0, .int .i64 0]) (by simp [results, Tryz.results71, go_sem, r0, r1, r2, r3, r4, r5]) rfl ?_
     rw [unhide HH]
     exact ⟨_, rfl, PartsAt.nil _ _, (unhide HL5).keep (Only.six w.heap.size _ _ _ _ _ _ _) (by unfold Mine; omega), (unhide HO5).young (Only.six w.heap.size _ _ _ _ _ _ _) (Nat.le_refl _)⟩
   have n93 := hide x
   clear x
   have h94 : (byteAt s st.i == 94) = false := by have := unhide n94; simp [this]
   have h36 : (byteAt s st.i == 36) = false := by have := unhide n36; simp [this]
   have h92 : (byteAt s st.i == 92) = false := by have := unhide n92; simp [this]
   have h124 : (byteAt s st.i == 124) = false := by have := unhide n124; simp [this]
   have h46 : (byteAt s st.i == 46) = false := by have := unhide n46; simp [this]
   have h91 : (byteAt s st.i == 91) = false := by have := unhide n91; simp [this]
   have h40 : (byteAt s st.i == 40) = false := by have := unhide n40; simp [this]
   have h41 : (byteAt s st.i == 41) = false := by have := unhide n41; simp [this]
   have h42 : (byteAt s st.i == 42) = false := by have := unhide n42; simp [this]
   have h43 : (byteAt s st.i == 43) = false := by have := unhide n43; simp [this]
   have h63 : (byteAt s st.i == 63) = false := by have := unhide n63; simp [this]
   have h123 : (byteAt s st.i == 123) = false := by have := unhide n123; simp [this]
   have h125 : (byteAt s st.i == 125) = false := by have := unhide n125; simp [this]
   have h93 : (byteAt s st.i == 93) = false := by have := unhide n93; simp [this]
   have HH : Hid (Ref.tokenF s st = (⟨1, false, [⟨false, [(oc, oc)]⟩], 0, 0, 0⟩, st.go on)) := by
     show _ = _; unfold Ref.tokenF
     simp only [beq_eq_false_iff_ne] at *
     rw [if_neg (by omega), if_neg (by omega), if_neg (by omega), if_neg (by omega), if_neg (by omega), if_neg (by omega), if_neg (by omega), if_neg (by omega), if_neg (by simp [Ref.wrongB]; omega), unhide Ho]
   clear n94 n36 n92 n124 n46 n91 n40 n41 n42 n43 n63 n123 n125 n93
   go_wp2_with fail
   refine (char_any b s st on oc _ (unhide hLL) hs hi (unhide Ho) (unhide Hgn)).mono ?_
   rintro e w5 ⟨sv, rfl, hsp, hL5, hO5⟩
   have hR5 := (unhide hRR).keep hO5 (by unfold Mine; omega)
   obtain ⟨sa, sn, sc, rfl⟩ := own_slice hsp
   have HS := hide (hsp.base (base' := w.heap.size + 1) (by have := Six.lt (unhide hRR); omega))
   have HL5 := hide hL5
   have HO5 := hide ((unhide hOO).trans hO5)
   have hsz5 : w.heap.size < w5.heap.size := hR5.lt
   clear hsp hL5 hO5 l0 l1 l2 l3 k1 k2 k3 r0 r1 r2 r3 r4 r5 u0 u1 u2 u3 u4 u5
   obtain ⟨r0, r1, r2, r3, r4, r5, u0, u1, u2, u3, u4, u5⟩ := hR5
   go_wp2_with fail
   refine bodyPost_ret (v := .agg #[.int .i64 1, .bool false, .slice (some ⟨w5.heap.size + 1, 0, none⟩) 1 1, .int .i64 0, .int .i64 0, .int .i64 0]) (by simp [results, Tryz.results71, go_sem, r0, r1, r2, r3, r4, r5, hsz5]) rfl ?_
   rw [unhide HH]
   refine ⟨_, rfl, ?_, ?_, ?_⟩
   · exact parts_one _ _ _ (by simp) (by omega) _ ⟨false, [(oc, oc)]⟩ (.slice sa sn sc) rfl (((unhide HS).keep ((Only.six w.heap.size w5 _ _ _ _ _ _).alloc _) (by intro g hg _ hh; unfold Mine at hh; omega)).base (by omega))
   · exact (((unhide HL5).keep (Only.six w.heap.size _ _ _ _ _ _ _) (by unfold Mine; omega)).alloc _).alloc _
   · exact (((unhide HO5).young (Only.six w.heap.size _ _ _ _ _ _ _) (Nat.le_refl _)).alloc _).alloc _
def ToksOK (w : World) (base : Nat) : List Tok → List Value → Prop
 | [], [] => True
 | t :: ts, a0 :: a1 :: a2 :: a3 :: a4 :: a5 :: vs => (a0 = .int .i64 t.kind ∧ a1 = .bool t.neg ∧ a3 = .int .i64 t.c ∧ a4 = .int .i64 t.mn ∧ a5 = .int .i64 t.mx) ∧ PartsAt w base a2 t.parts ∧ ToksOK w base ts vs
 | _, _ => False
def ToksAt (w : World) (base : Nat) (v : Value) (l : List Tok) : Prop := ∃ cs, w.ownsRow base 178 6 v l.length cs ∧ ToksOK w base l cs
theorem ToksOK.keep {P : Nat → Prop} {w w' : World} {base : Nat} (k : Only P w w') (hn : ∀ g, base ≤ g → g < w.heap.size → ¬ P g) : ∀ (l : List Tok) (cs : List Value), ToksOK w base l cs → ToksOK w' base l cs
 | [], [], _ => trivial
 | _t :: ts, _a0 :: _a1 :: _a2 :: _a3 :: _a4 :: _a5 :: vs, h => ⟨h.1, h.2.1.keep k hn, ToksOK.keep k hn ts vs h.2.2⟩
 | [], _ :: _, h => h
 | _ :: _, [], h => h
 | _ :: _, [_], h => h
 | _ :: _, [_, _], h => h
 | _ :: _, [_, _, _], h => h
 | _ :: _, [_, _, _, _], h => h
 | _ :: _, [_, _, _, _, _], h => h
theorem ToksAt.keep {P : Nat → Prop} {w w' : World} {base : Nat} {v : Value} {l : List Tok} (h : ToksAt w base v l) (k : Only P w w') (hn : ∀ g, base ≤ g → g < w.heap.size → ¬ P g) : ToksAt w' base v l := by
 obtain ⟨cs, h1, h2⟩ := h
 exact ⟨cs, ownsRow_keep h1 k (fun g hg => hn g (ownsRow_block h1 g hg).1 (ownsRow_block h1 g hg).2), ToksOK.keep k hn l cs h2⟩
theorem ToksAt.nil (w : World) (base : Nat) : ToksAt w base (.slice none 0 0) [] := ⟨[], World.ownsRow_nil _ _ _ _, trivial⟩
theorem SpansAt.grownT {w w' : World} {base base' : Nat} {sv v : Value} {n : Nat} {xs : List Value} {l : List (Int × Int)} (h : SpansAt w base sv l) (hr : w.ownsRow base' 178 6 v n xs) (hg : w.grownBy w' v.ownBlock) : SpansAt w' base sv l :=
 ownsRow_keep h (Only.ofGrown hg) (fun g h1 h2 => own_ne h hr (by decide) g h1 h2)
theorem PartsOK.grownT {w w' : World} {base base' : Nat} {v : Value} {n : Nat} {xs : List Value} (hr : w.ownsRow base' 178 6 v n xs) (hg : w.grownBy w' v.ownBlock) : ∀ (l : List Pt) (cs : List Value), PartsOK w base l cs → PartsOK w' base l cs
 | [], [], _ => trivial
 | _p :: ps, _b :: _v :: vs, h => ⟨h.1, h.2.1.grownT hr hg, PartsOK.grownT hr hg ps vs h.2.2⟩
 | [], _ :: _, h => h
 | _ :: _, [], h => h
 | _ :: _, [_], h => h
theorem PartsAt.grownT {w w' : World} {base base' : Nat} {pv v : Value} {n : Nat} {xs : List Value} {l : List Pt} (h : PartsAt w base pv l) (hr : w.ownsRow base' 178 6 v n xs) (hg : w.grownBy w' v.ownBlock) : PartsAt w' base pv l := by
 obtain ⟨cs, h1, h2⟩ := h
 exact ⟨cs, ownsRow_keep h1 (Only.ofGrown hg) (fun g a b => own_ne h1 hr (by decide) g a b), PartsOK.grownT hr hg l cs h2⟩
theorem ToksOK.grown {w w' : World} {base base' : Nat} {v : Value} {n : Nat} {xs : List Value} (hr : w.ownsRow base' 178 6 v n xs) (hg : w.grownBy w' v.ownBlock) : ∀ (l : List Tok) (cs : List Value), ToksOK w base l cs → ToksOK w' base l cs
 | [], [], _ => trivial
 | _t :: ts, _a0 :: _a1 :: _a2 :: _a3 :: _a4 :: _a5 :: vs, h => ⟨h.1, h.2.1.grownT hr hg, ToksOK.grown hr hg ts vs h.2.2⟩
 | [], _ :: _, h => h
 | _ :: _, [], h => h
 | _ :: _, [_], h => h
 | _ :: _, [_, _], h => h
 | _ :: _, [_, _, _], h => h
 | _ :: _, [_, _, _, _], h => h
 | _ :: _, [_, _, _, _, _], h => h
theorem ToksOK.append {w : World} {base : Nat} {t : Tok} {pv : Value} (hs : PartsAt w base pv t.parts) : ∀ (l : List Tok) (cs : List Value), ToksOK w base l cs → ToksOK w base (l ++ [t]) (cs ++ [.int .i64 t.kind, .bool t.neg, pv, .int .i64 t.c, .int .i64 t.mn, .int .i64 t.mx])
 | [], [], _ => ⟨⟨rfl, rfl, rfl, rfl, rfl⟩, hs, trivial⟩
 | _q :: ps, _a0 :: _a1 :: _a2 :: _a3 :: _a4 :: _a5 :: vs, h => ⟨h.1, h.2.1, ToksOK.append hs ps vs h.2.2⟩
 | [], _ :: _, h => h.elim
 | _ :: _, [], h => h.elim
 | _ :: _, [_], h => h.elim
 | _ :: _, [_, _], h => h.elim
 | _ :: _, [_, _, _], h => h.elim
 | _ :: _, [_, _, _, _], h => h.elim
 | _ :: _, [_, _, _, _, _], h => h.elim
theorem ToksAt.appended {w w' : World} {base : Nat} {v v' : Value} {l : List Tok} {cs : List Value} {t : Tok} {pv : Value} (h1 : w.ownsRow base 178 6 v l.length cs) (h2 : ToksOK w base l cs) (hs : PartsAt w base pv t.parts)
   (hown : w'.ownsRow base 178 6 v' (l.length + 1) (cs ++ [.int .i64 t.kind, .bool t.neg, pv, .int .i64 t.c, .int .i64 t.mn, .int .i64 t.mx])) (hg : w.grownBy w' v.ownBlock) : ToksAt w' base v' (l ++ [t]) :=
 ⟨cs ++ [.int .i64 t.kind, .bool t.neg, pv, .int .i64 t.c, .int .i64 t.mn, .int .i64 t.mx], by rw [List.length_append]; exact hown, ToksOK.append (hs.grownT h1 hg) l cs (ToksOK.grown h1 hg l cs h2)⟩
namespace Ref
def quantB (b : Int) : Bool := (b == 42) || (b == 43) || (b == 63) || (b == 123)
def turnO (k op : Int) : Int := if k = 3 then op + 1 else if k = 4 then op - 1 else op
def tokensF (s : ByteArray) : Nat → List Tok → Int → Bool → St → List Tok × Int × Int
 | 0, l, _, _, st => (l, st.e, st.a)
 | f + 1, l, op, atom, st =>
   if st.i < s.size ∧ st.e = 0 then
     (if atom = true ∧ quantB (byteAt s st.i) = true then tokensF s f (l ++ [⟨6, false, [], 0, (quantF s st).1, (quantF s st).2.1⟩]) op false (quantF s st).2.2
      else if byteAt s st.i = 40 ∧ op = 10 then ([], 7, (st.i : Int))
      else tokensF s f (l ++ [(tokenF s st).1]) (turnO (tokenF s st).1.kind op) (((tokenF s st).1.kind == 1) || ((tokenF s st).1.kind == 4))
         (if turnO (tokenF s st).1.kind op < 0 then (tokenF s st).2.fail 3 st.i else (tokenF s st).2))
   else (l, (if 0 < op then st.fail 3 s.size else st).e, (if 0 < op then st.fail 3 s.size else st).a)
def tokensR (s : ByteArray) : List Tok × Int × Int := tokensF s (s.size + 1) [] 0 false ⟨0, 0, 0⟩
theorem openF_fine {s : ByteArray} {st : St} (hg : Good s st.i) (hb : byteAt s st.i = 40) : Fine s (openF s st) ∧ st.i < (openF s st).i := by
 have g1 := hg.ascii (by omega) (by omega)
 unfold openF
 split
 · have g2 := g1.ascii (by omega) (by omega)
   split
   · have g3 := g2.ascii (by show 0 ≤ byteAt s (st.i + 2); omega) (by show byteAt s (st.i + 2) < 128; omega)
     exact ⟨⟨g3.le, fun _ => g3⟩, by simp only [St.go]; omega⟩
   · split
     · exact ⟨Fine.fail g2.le (by decide), by rw [fail_i]; simp only [St.go]; omega⟩
     · exact ⟨Fine.fail g2.le (by decide), by rw [fail_i]; simp only [St.go]; omega⟩
 · exact ⟨⟨g1.le, fun _ => g1⟩, by simp only [St.go]; omega⟩
theorem classF_fine (s : ByteArray) : ∀ (f : Nat) (ps : List Pt) (st : St), Fine s st → s.size < st.i + f → (st.i ≤ (classF s f ps st).2.i ∧ (classF s f ps st).2.i ≤ s.size + 1 ∧ ((classF s f ps st).2.e = 0 → Good s (classF s f ps st).2.i))
 | 0, ps, st, h, hf => by have := h.1; omega
 | f + 1, ps, st, h, hf => by
   by_cases c1 : st.e = 0 ∧ byteAt s st.i ≠ 93
   · have hg := h.2 c1.1
     by_cases c2 : byteAt s st.i < 0
     · rw [classF_open c1 c2]
       exact ⟨by rw [fail_i]; exact Nat.le_refl _, by rw [fail_i]; have := h.1; omega, fun h0 => absurd h0 (fail_ne _ _ _ (by decide))⟩
     · have hi : st.i < s.size := by rw [← byteAt_nonneg]; omega
       have m1 := memberF_fine hg hi
       by_cases c3 : rangeB s (memberF s st).2.2 = true
       · have hr : (memberF s st).2.2.e = 0 ∧ byteAt s (memberF s st).2.2.i = 45 ∧ (memberF s st).2.2.i + 1 < s.size := by simp [rangeB] at c3; exact ⟨c3.1.1.1, c3.1.1.2, c3.1.2⟩
         have g2 := (m1.1.2 hr.1).ascii (by omega) (by omega)
         have m2 := memberF_fine (st := (memberF s st).2.2.go 1) g2 hr.2.2
         have m2' : (memberF s st).2.2.i + 1 < (memberF s ((memberF s st).2.2.go 1)).2.2.i := m2.2
         by_cases c4 : (memberF s ((memberF s st).2.2.go 1)).2.2.e = 0
         · by_cases c5 : badB (memberF s st).1 (memberF s ((memberF s st).2.2.go 1)).1 (memberF s st).2.1 (memberF s ((memberF s st).2.2.go 1)).2.1 = true
           · rw [classF_bad c1 c2 c3 c4 c5]
             exact ⟨by rw [fail_i]; omega, by rw [fail_i]; have := m2.1.1; omega, fun h0 => absurd h0 (fail_ne _ _ _ (by decide))⟩
           · rw [classF_range c1 c2 c3 c4 c5]
             have := classF_fine s f (ps ++ [⟨(memberF s st).1.neg, [(loOf (memberF s st).1, loOf (memberF s ((memberF s st).2.2.go 1)).1)]⟩]) _ m2.1 (by omega)
             exact ⟨by omega, this.2⟩
         · rw [classF_dead c1 c2 c3 c4]
           dsimp only
           exact ⟨by omega, by have := m2.1.1; omega, fun h0 => absurd h0 c4⟩
       · rw [classF_one c1 c2 c3]
         have := classF_fine s f (ps ++ [(memberF s st).1]) _ m1.1 (by omega)
         exact ⟨by omega, this.2⟩
   · rw [classF_end c1]
     refine ⟨by simp only [St.go]; omega, by have := h.1; simp only [St.go]; omega, fun h0 => ?_⟩
     have h0' : st.e = 0 := h0
     have hb : byteAt s st.i = 93 := Classical.byContradiction fun hn => c1 ⟨h0', hn⟩
     exact (h.2 h0').ascii (by omega) (by omega)
theorem countL_good (s : ByteArray) : ∀ (f : Nat) (n : Int) (st : St), Good s st.i → Good s (countL s f n st).2.i ∧ (countL s f n st).2.e = st.e
 | 0, n, st, h => ⟨h, rfl⟩
 | f + 1, n, st, h => by
   cases hd : digitB (byteAt s st.i)
   · rw [countL_stop hd]; exact ⟨h, rfl⟩
   · rw [countL_go hd]
     have hb := digitB_true hd
     exact countL_good s f _ (st.go 1) (h.ascii (by omega) (by omega))
theorem countF_good {s : ByteArray} {st : St} (h : Good s st.i) : Good s (countF s st).2.i := by rw [countF_i]; exact (countL_good s _ 0 st h).1
end Ref
end Go.Proofs.YtnagphodmfejiaaGreatDoor
