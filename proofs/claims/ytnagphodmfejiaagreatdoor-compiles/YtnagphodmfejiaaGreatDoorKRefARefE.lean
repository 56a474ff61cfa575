/- The reference's smallest functions: what each answers, for every argument. The reference's readers of digits. The reference's braced numbers and halves of pairs. The reference's escapes of one number. The reference's escapes of one number: behind the backslash. -/
import Derived.Test.YtnagphodmfejiaaGreatDoorProg
import Derived.Test.YtnagphodmfejiaaGreatDoorKBaseSemD
namespace Go.Proofs.YtnagphodmfejiaaGreatDoor
open Go.RowKit
namespace Ref
def hexV (b : Int) : Int := if 48 ≤ b ∧ b ≤ 57 then b - 48 else if 97 ≤ b ∧ b ≤ 102 then b - 87 else if 65 ≤ b ∧ b ≤ 70 then b - 55 else -1
def leastV (n : Int) : Int := if n = 2 then 128 else if n = 3 then 2048 else if n = 4 then 65536 else 0
def headN (b : Int) : Int := if b < 128 then 1 else if 192 ≤ b ∧ b < 224 then 2 else if 224 ≤ b ∧ b < 240 then 3 else if 240 ≤ b ∧ b < 248 then 4 else 0
def headC (b : Int) : Int := if b < 128 then b else if 192 ≤ b ∧ b < 224 then b - 192 else if 224 ≤ b ∧ b < 240 then b - 224 else if 240 ≤ b ∧ b < 248 then b - 240 else 0
def controlV (b : Int) : Int := if b = 116 then 9 else if b = 110 then 10 else if b = 118 then 11 else if b = 102 then 12 else if b = 114 then 13 else -1
end Ref
theorem ret_two {k l : IntKind} {a b c d : Int} (h : a = b) (g : c = d) : Ending.returned (.tuple #[.int k a, .int l c]) = .returned (.tuple #[.int k b, .int l d]) := by rw [h, g]
theorem ret_bool {a b : Bool} (h : a = b) : Ending.returned (.bool a) = .returned (.bool b) := by rw [h]
theorem ret_int {k : IntKind} {a b : Int} (h : a = b) : Ending.returned (.int k a) = .returned (.int k b) := by rw [h]
set_option maxHeartbeats 400000 in
theorem hexed_any (b : Int) (w : World) (h1 : -1 ≤ b) (h2 : b ≤ 255) :
   Calls Tryz.prog 229 #[.int .i64 b] w fun e w' => e = .returned (.int .i64 (Ref.hexV b)) ∧ w' = w := by
 go_enter Tryz.func229, Tryz.ntmps229
 go_wp2
 all_goals (go_ret; refine ⟨ret_int ?_, rfl⟩; unfold Ref.hexV; (repeat' split) <;> omega)
set_option maxHeartbeats 400000 in
theorem control_any (b : Int) (w : World) :
   Calls Tryz.prog 206 #[.int .i64 b] w fun e w' => e = .returned (.int .i64 (Ref.controlV b)) ∧ w' = w := by
 go_enter Tryz.func206, Tryz.ntmps206
 go_wp2
 all_goals (go_ret; refine ⟨ret_int ?_, rfl⟩; unfold Ref.controlV; simp_all)
set_option maxHeartbeats 400000 in
theorem least_any (n : Int) (w : World) :
   Calls Tryz.prog 68 #[.int .i64 n] w fun e w' => e = .returned (.int .i64 (Ref.leastV n)) ∧ w' = w := by
 go_enter Tryz.func68, Tryz.ntmps68
 go_wp2
 all_goals (go_ret; refine ⟨ret_int ?_, rfl⟩; unfold Ref.leastV; simp_all)
set_option maxHeartbeats 400000 in
theorem head_any (b : Int) (w : World) (h1 : 0 ≤ b) (h2 : b ≤ 255) :
   Calls Tryz.prog 67 #[.int .i64 b] w fun e w' => e = .returned (.tuple #[.int .i64 (Ref.headN b), .int .i64 (Ref.headC b)]) ∧ w' = w := by
 go_enter Tryz.func67, Tryz.ntmps67
 go_wp2
 all_goals go_ret2
 all_goals (refine ⟨ret_two ?_ ?_, rfl⟩ <;> (first | unfold Ref.headN | unfold Ref.headC) <;> (repeat' split) <;> omega)
set_option maxHeartbeats 400000 in
theorem now_any (b : Nat) (s : ByteArray) (i : Nat) (e a : Int) (w : World) (h : LexAt w b s i e a) (_hs : s.size ≤ maxLen) :
   Calls Tryz.prog 69 #[.pointer (some ⟨b, 0, none⟩)] w fun x w' => x = .returned (.int .i64 (byteAt s i)) ∧ ∃ n, w' = w.drewN n := by
 obtain ⟨c0, c1, c2, c3, f1, f2, f3⟩ := h
 unfold maxLen at _hs
 by_cases hlt : i < s.size
 · go_enter Tryz.func69, Tryz.ntmps69
   go_wp2
   go_quiet (fail)
   go_wp2
   go_quiet (fail)
   go_wp2
   go_ret
   exact ⟨ret_int (by rw [byteAt_in s i hlt, byte_wrap]), _, by rw [World.drewN_drewN]⟩
 · go_enter Tryz.func69, Tryz.ntmps69
   go_wp2
   go_quiet (fail)
   go_wp2
   go_ret
   exact ⟨ret_int (by rw [byteAt_out s i (by omega)]), _, rfl⟩
set_option maxHeartbeats 400000 in
theorem fail_any (b : Nat) (s : ByteArray) (i e a e' a' : Int) (w : World) (h : LexAt w b s i e a) :
   Calls Tryz.prog 72 #[.pointer (some ⟨b, 0, none⟩), .int .i64 e', .int .i64 a'] w fun x w' =>
     x = .returned (.tuple #[]) ∧ LexAt w' b s i (if e = 0 then e' else e) (if e = 0 then a' else a) ∧ Only (Mine b) w w' := by
 have h' := hide h
 obtain ⟨c0, c1, c2, c3, f1, f2, f3⟩ := h
 by_cases he : e = 0
 · have hb : (e == 0) = true := by simp [he]
   have He : Hid (e = 0) := he
   clear he
   go_enter Tryz.func72, Tryz.ntmps72
   go_wp2
   go_end0
   exact ⟨rfl, ((unhide h').setE e').setA a', ((Only.refl _ _).mine _ _).mine _ _⟩
 · have hb : (e == 0) = false := by simp [he]
   have He : Hid (¬ e = 0) := he
   clear he
   go_enter Tryz.func72, Tryz.ntmps72
   go_wp2
   go_end0
   exact ⟨rfl, unhide h', Only.refl _ _⟩
def Ref.signB (b : Int) : Bool := [94, 36, 92, 46, 42, 43, 63, 40, 41, 91, 93, 123, 125, 124, 47].any fun c => decide (c = b)
set_option maxHeartbeats 400000 in
theorem syntax_any (b : Int) (w : World) (_h1 : -1 ≤ b) (_h2 : b ≤ 255) :
   Calls Tryz.prog 207 #[.int .i64 b] w fun e w' => e = .returned (.bool (Ref.signB b)) ∧ w' = w := by
 have k0 : wrap64 ((({ data := #[94, 36, 92, 46, 42, 43, 63, 40, 41, 91, 93, 123, 125, 124, 47] } : ByteArray)[0]'(by decide)).toNat : Int) = 94 := by decide +kernel
 have k1 : wrap64 ((({ data := #[94, 36, 92, 46, 42, 43, 63, 40, 41, 91, 93, 123, 125, 124, 47] } : ByteArray)[1]'(by decide)).toNat : Int) = 36 := by decide +kernel
 have k2 : wrap64 ((({ data := #[94, 36, 92, 46, 42, 43, 63, 40, 41, 91, 93, 123, 125, 124, 47] } : ByteArray)[2]'(by decide)).toNat : Int) = 92 := by decide +kernel
 have k3 : wrap64 ((({ data := #[94, 36, 92, 46, 42, 43, 63, 40, 41, 91, 93, 123, 125, 124, 47] } : ByteArray)[3]'(by decide)).toNat : Int) = 46 := by decide +kernel
 have k4 : wrap64 ((({ data := #[94, 36, 92, 46, 42, 43, 63, 40, 41, 91, 93, 123, 125, 124, 47] } : ByteArray)[4]'(by decide)).toNat : Int) = 42 := by decide +kernel
 have k5 : wrap64 ((({ data := #[94, 36, 92, 46, 42, 43, 63, 40, 41, 91, 93, 123, 125, 124, 47] } : ByteArray)[5]'(by decide)).toNat : Int) = 43 := by decide +kernel
 have k6 : wrap64 ((({ data := #[94, 36, 92, 46, 42, 43, 63, 40, 41, 91, 93, 123, 125, 124, 47] } : ByteArray)[6]'(by decide)).toNat : Int) = 63 := by decide +kernel
 have k7 : wrap64 ((({ data := #[94, 36, 92, 46, 42, 43, 63, 40, 41, 91, 93, 123, 125, 124, 47] } : ByteArray)[7]'(by decide)).toNat : Int) = 40 := by decide +kernel
 have k8 : wrap64 ((({ data := #[94, 36, 92, 46, 42, 43, 63, 40, 41, 91, 93, 123, 125, 124, 47] } : ByteArray)[8]'(by decide)).toNat : Int) = 41 := by decide +kernel
 have k9 : wrap64 ((({ data := #[94, 36, 92, 46, 42, 43, 63, 40, 41, 91, 93, 123, 125, 124, 47] } : ByteArray)[9]'(by decide)).toNat : Int) = 91 := by decide +kernel
 have k10 : wrap64 ((({ data := #[94, 36, 92, 46, 42, 43, 63, 40, 41, 91, 93, 123, 125, 124, 47] } : ByteArray)[10]'(by decide)).toNat : Int) = 93 := by decide +kernel
 have k11 : wrap64 ((({ data := #[94, 36, 92, 46, 42, 43, 63, 40, 41, 91, 93, 123, 125, 124, 47] } : ByteArray)[11]'(by decide)).toNat : Int) = 123 := by decide +kernel
 have k12 : wrap64 ((({ data := #[94, 36, 92, 46, 42, 43, 63, 40, 41, 91, 93, 123, 125, 124, 47] } : ByteArray)[12]'(by decide)).toNat : Int) = 125 := by decide +kernel
 have k13 : wrap64 ((({ data := #[94, 36, 92, 46, 42, 43, 63, 40, 41, 91, 93, 123, 125, 124, 47] } : ByteArray)[13]'(by decide)).toNat : Int) = 124 := by decide +kernel
 have k14 : wrap64 ((({ data := #[94, 36, 92, 46, 42, 43, 63, 40, 41, 91, 93, 123, 125, 124, 47] } : ByteArray)[14]'(by decide)).toNat : Int) = 47 := by decide +kernel
 go_enter Tryz.func207, Tryz.ntmps207
 go_wp2
 refine wp_loop_rounds 16 ?_
 iterate 16 (all_goals (try rw [rounds_succ]); all_goals (try go_wp2))
 all_goals (go_ret; refine ⟨ret_bool ?_, rfl⟩)
 all_goals (clear k0 k1 k2 k3 k4 k5 k6 k7 k8 k9 k10 k11 k12 k13 k14)
 all_goals (simp_all [Ref.signB])
 all_goals omega
set_option maxHeartbeats 400000 in
theorem least2_any (a b : Int) (w : World) :
   Calls Tryz.prog 75 #[.int .i64 a, .int .i64 b] w fun e w' => e = .returned (.int .i64 (if a < b then a else b)) ∧ w' = w := by
 go_enter Tryz.func75, Tryz.ntmps75
 go_wp2
 all_goals (go_ret; refine ⟨ret_int ?_, rfl⟩; first | rfl | (split <;> omega))
namespace Ref
def hexF (s : ByteArray) : Nat → Int → St → Int × St
 | 0, c, st => (c, st)
 | n + 1, c, st => if hexV (byteAt s st.i) < 0 then (0, st.fail 3 st.i) else hexF s n (16 * c + hexV (byteAt s st.i)) (st.go 1)
theorem hexV_hi (b : Int) : hexV b ≤ 15 := by unfold hexV; (repeat' split) <;> omega
theorem hexV_lo (b : Int) : -1 ≤ hexV b := by unfold hexV; (repeat' split) <;> omega
theorem hexF_bad {s : ByteArray} {n : Nat} {c : Int} {st : St} (h : hexV (byteAt s st.i) < 0) : hexF s (n + 1) c st = (0, st.fail 3 st.i) := by simp [hexF, h]
theorem hexF_good {s : ByteArray} {n : Nat} {c : Int} {st : St} (h : 0 ≤ hexV (byteAt s st.i)) : hexF s (n + 1) c st = hexF s n (16 * c + hexV (byteAt s st.i)) (st.go 1) := by
 simp [hexF, show ¬ hexV (byteAt s st.i) < 0 by omega]
end Ref
theorem pow16_le (k : Nat) (h : k ≤ 4) : (16 : Int) ^ k ≤ 65536 := by
 have h5 : k = 0 ∨ k = 1 ∨ k = 2 ∨ k = 3 ∨ k = 4 := by omega
 rcases h5 with rfl | rfl | rfl | rfl | rfl <;> decide
theorem now_lex (b : Nat) (s : ByteArray) (st : St) (w : World) (h : Lex w b s st) (hs : s.size ≤ 400) :
   Calls Tryz.prog 69 #[.pointer (some ⟨b, 0, none⟩)] w fun x w' => x = .returned (.int .i64 (byteAt s st.i)) ∧ ∃ n, w' = w.drewN n :=
 now_any b s st.i st.e st.a w h (by unfold maxLen; omega)
theorem fail_lex (b : Nat) (s : ByteArray) (st : St) (e' a' : Int) (w : World) (h : Lex w b s st) :
   Calls Tryz.prog 72 #[.pointer (some ⟨b, 0, none⟩), .int .i64 e', .int .i64 a'] w fun x w' =>
     x = .returned (.tuple #[]) ∧ Lex w' b s (st.fail e' a') ∧ Only (Mine b) w w' :=
 (fail_any b s st.i st.e st.a e' a' w h).mono fun x w' ⟨h1, h2, h3⟩ => ⟨h1, by
   unfold Lex St.fail
   split
   · rename_i he; simpa [he] using h2
   · rename_i he; simpa [he] using h2, h3⟩
set_option maxHeartbeats 400000 in
theorem hex_any (b : Nat) (s : ByteArray) (n : Nat) (st : St) (w : World) (hn : n ≤ 4) (h : Lex w b s st) (hs : s.size ≤ 400) (hi : st.i ≤ 1000) :
   Calls Tryz.prog 208 #[.pointer (some ⟨b, 0, none⟩), .int .i64 n] w fun x w' =>
     x = .returned (.int .i64 (Ref.hexF s n 0 st).1) ∧ Lex w' b s (Ref.hexF s n 0 st).2 ∧ Only (Mine b) w w' := by
 go_enter Tryz.func208, Tryz.ntmps208
 go_wp2_with fail
 go_loopw [5, 6] (fun c i wr => ∃ (k : Nat) (q : Int) (st' : St), k ≤ n ∧ i = .int .i64 k ∧ c = .int .i64 q ∧ 0 ≤ q ∧ q < (16 : Int) ^ k ∧ st'.i ≤ 1000 + k ∧ Lex wr b s st' ∧ Only (Mine b) w wr ∧ Hid (Ref.hexF s n 0 st = Ref.hexF s (n - k) q st'))
   (fun _ i _ => n - (intOf i).toNat)
 case atStart => exact ⟨0, 0, st, Nat.zero_le _, rfl, rfl, by omega, by simp, by omega, h, Only.refl _ _, rfl⟩
 case round =>
   obtain ⟨k, q, st', hk, rfl, rfl, hq0, hq1, hi', hL, hO, HF⟩ := hrel
   have hp : (16 : Int) ^ k ≤ 65536 := pow16_le k (by omega)
   have hd1 := Ref.hexV_hi (byteAt s st'.i)
   by_cases hlt : k < n
   · go_wp2_with fail
     refine (now_lex b s st' _ hL hs).mono ?_
     rintro e w1 ⟨rfl, nq, rfl⟩
     go_wp2_with fail
     refine (hexed_any _ _ (byteAt_lo _ _) (byteAt_hi _ _)).mono ?_
     rintro e w1 ⟨rfl, rfl⟩
     have hL1 := hide hL
     obtain ⟨c0, c1, c2, c3, f1, f2, f3⟩ := hL
     by_cases hd : Ref.hexV (byteAt s st'.i) < 0
     · have HF1 : Hid (Ref.hexF s n 0 st = (0, st'.fail 3 st'.i)) := by
         rw [unhide HF, show n - k = (n - k - 1) + 1 by omega]; exact Ref.hexF_bad hd
       go_wp2_with fail
       refine (fail_lex b s st' 3 st'.i _ ((unhide hL1).drewN nq)).mono ?_
       rintro e w2 ⟨rfl, hL2, hO2⟩
       go_wp2_with fail
       go_ret
       rw [unhide HF1]
       exact ⟨rfl, hL2, (hO.drewN nq).trans hO2⟩
     · have HF1 : Hid (Ref.hexF s n 0 st = Ref.hexF s (n - (k + 1)) (16 * q + Ref.hexV (byteAt s st'.i)) (st'.go 1)) := by
         rw [unhide HF, show n - k = (n - (k + 1)) + 1 by omega]; exact Ref.hexF_good (by omega)
       have hp' : (16 : Int) ^ (k + 1) = 16 * (16 : Int) ^ k := by rw [Int.pow_succ]; omega
       have hpn : 16 * q + Ref.hexV (byteAt s st'.i) < (16 : Int) ^ (k + 1) := by omega
       have Hpn := hide hpn
       clear hp' hpn
       generalize hD : Ref.hexV (byteAt s st'.i) = D at *
       have HD := hide hD
       clear hD
       go_wp2_with fail
       go_roundw
       case rel => exact ⟨k + 1, _, st'.go 1, by omega, by go_num, rfl, by omega, unhide Hpn, by simp [St.go]; omega, ((unhide hL1).drewN nq).setI _, ((hO.drewN nq).mine _ _), HF1⟩
       case measure => simp [intOf]; omega
   · have HF1 : Hid (Ref.hexF s n 0 st = (q, st')) := by
       rw [unhide HF, show n - k = 0 by omega]; rfl
     go_wp2_with fail
     go_ret
     rw [unhide HF1]
     exact ⟨rfl, hL, hO⟩
namespace Ref
def bracedF (s : ByteArray) : Nat → Int → Nat → St → Int × St
 | 0, _, _, st => (0, st)
 | f + 1, c, n, st =>
   if 0 < n ∧ byteAt s st.i = 125 then (c, st.go 1)
   else if hexV (byteAt s st.i) < 0 ∨ 1114111 < 16 * c + hexV (byteAt s st.i) then (0, st.fail 3 st.i)
   else bracedF s f (16 * c + hexV (byteAt s st.i)) (n + 1) (st.go 1)
theorem bracedF_close {s : ByteArray} {f n : Nat} {c : Int} {st : St} (h : 0 < n) (h2 : byteAt s st.i = 125) : bracedF s (f + 1) c n st = (c, st.go 1) := by simp [bracedF, h, h2]
theorem bracedF_bad {s : ByteArray} {f n : Nat} {c : Int} {st : St} (h : ¬ (0 < n ∧ byteAt s st.i = 125)) (h2 : hexV (byteAt s st.i) < 0 ∨ 1114111 < 16 * c + hexV (byteAt s st.i)) :
   bracedF s (f + 1) c n st = (0, st.fail 3 st.i) := by simp only [bracedF]; rw [if_neg h, if_pos h2]
theorem bracedF_good {s : ByteArray} {f n : Nat} {c : Int} {st : St} (h : ¬ (0 < n ∧ byteAt s st.i = 125)) (h2 : ¬ (hexV (byteAt s st.i) < 0 ∨ 1114111 < 16 * c + hexV (byteAt s st.i))) :
   bracedF s (f + 1) c n st = bracedF s f (16 * c + hexV (byteAt s st.i)) (n + 1) (st.go 1) := by simp only [bracedF]; rw [if_neg h, if_neg h2]
def bracedR (s : ByteArray) (st : St) : Int × St := bracedF s (s.size + 1 - st.i) 0 0 st
theorem hexV_neg : hexV (-1) = -1 := by decide
end Ref
set_option maxHeartbeats 400000 in
theorem braced_any (b : Nat) (s : ByteArray) (st : St) (w : World) (h : Lex w b s st) (hs : s.size ≤ 400) (hi : st.i ≤ s.size) :
   Calls Tryz.prog 231 #[.pointer (some ⟨b, 0, none⟩)] w fun x w' =>
     x = .returned (.int .i64 (Ref.bracedR s st).1) ∧ Lex w' b s (Ref.bracedR s st).2 ∧ Only (Mine b) w w' := by
 go_enter Tryz.func231, Tryz.ntmps231
 go_wp2_with fail
 go_loopw [3, 4] (fun c n wr => ∃ (k : Nat) (q : Int) (st' : St), n = .int .i64 k ∧ c = .int .i64 q ∧ 0 ≤ q ∧ q ≤ 1114111 ∧ st'.i ≤ s.size ∧ k ≤ st'.i ∧ Lex wr b s st' ∧ Only (Mine b) w wr ∧ Hid (st'.i = st.i + k) ∧ Hid (Ref.bracedR s st = Ref.bracedF s (s.size + 1 - st'.i) q k st'))
   (fun _ n _ => s.size - st.i - (intOf n).toNat)
 case atStart => exact ⟨0, 0, st, rfl, rfl, by omega, by omega, hi, by omega, h, Only.refl _ _, rfl, rfl⟩
 case round =>
   obtain ⟨k, q, st', rfl, rfl, hq0, hq1, hi', hk, hL, hO, Hi, HF⟩ := hrel
   have hd1 := Ref.hexV_hi (byteAt s st'.i)
   have hL1 := hide hL
   have hfu : Hid (s.size + 1 - st'.i = (s.size - st'.i) + 1) := by show _ = _; omega
   by_cases hcl : 0 < k ∧ byteAt s st'.i = 125
   · have HF1 : Hid (Ref.bracedR s st = (q, st'.go 1)) := by
       rw [unhide HF, unhide hfu]; exact Ref.bracedF_close hcl.1 hcl.2
     have hk1 : 0 < k := hcl.1
     have hb : (byteAt s st'.i == 125) = true := by simp [hcl.2]
     clear hcl
     go_wp2_with fail
     refine (now_lex b s st' _ hL hs).mono ?_
     rintro e w1 ⟨rfl, nq, rfl⟩
     obtain ⟨c0, c1, c2, c3, f1, f2, f3⟩ := hL
     go_wp2_with fail
     go_ret
     rw [unhide HF1]
     exact ⟨rfl, ((unhide hL1).drewN nq).setI _, ((hO.drewN nq).mine _ _)⟩
   · have hcl' := hide hcl
     by_cases hk0 : k = 0
     case' pos =>
       have hkd : decide (0 < k) = false := by simp [hk0]
       clear hcl hk0
     case' neg =>
       have hk1 : 0 < k := by omega
       have hb : (byteAt s st'.i == 125) = false := by simp only [beq_eq_false_iff_ne]; intro hbb; exact hcl ⟨hk1, hbb⟩
       clear hcl
       go_wp2_with fail
       refine (now_lex b s st' _ hL hs).mono ?_
       rintro e w1 ⟨rfl, nq1, rfl⟩
     all_goals
       go_wp2_with fail
       refine (now_lex b s st' _ (by first | exact hL | exact hL.drewN _) hs).mono ?_
       rintro e w1 ⟨rfl, nq, rfl⟩
       go_wp2_with fail
       refine (hexed_any _ _ (byteAt_lo _ _) (byteAt_hi _ _)).mono ?_
       rintro e w1 ⟨rfl, rfl⟩
       obtain ⟨c0, c1, c2, c3, f1, f2, f3⟩ := hL
       generalize hD : Ref.hexV (byteAt s st'.i) = D at *
       have HD := hide hD
       clear hD
       by_cases hbad : D < 0 ∨ 1114111 < 16 * q + D
       · have HF1 : Hid (Ref.bracedR s st = (0, st'.fail 3 st'.i)) := by
           rw [unhide HF, unhide hfu]; exact Ref.bracedF_bad (unhide hcl') (by rw [unhide HD]; exact hbad)
         by_cases hD0 : D < 0
         case' neg => have hbad2 : 1114111 < 16 * q + D := by omega
         all_goals clear hbad
         all_goals
           go_wp2_with fail
           refine (fail_lex b s st' 3 st'.i _ ((unhide hL1).drewN _)).mono ?_
           rintro e w2 ⟨rfl, hL2, hO2⟩
           go_wp2_with fail
           go_ret
           rw [unhide HF1]
           exact ⟨rfl, hL2, (hO.drewN _).trans hO2⟩
       · have hlt : st'.i < s.size := by
           apply Classical.byContradiction; intro hn
           have := byteAt_out s st'.i (by omega)
           rw [this, Ref.hexV_neg] at HD
           have := unhide HD; omega
         have HF1 : Hid (Ref.bracedR s st = Ref.bracedF s (s.size + 1 - (st'.go 1).i) (16 * q + D) (k + 1) (st'.go 1)) := by
           rw [unhide HF, unhide hfu, show s.size + 1 - (st'.go 1).i = s.size - st'.i by simp only [St.go]; omega, ← unhide HD]; exact Ref.bracedF_good (unhide hcl') (by rw [unhide HD]; exact hbad)
         have h1 : 0 ≤ D := by omega
         have h2 : 16 * q + D ≤ 1114111 := by omega
         have hki := unhide Hi
         have Hki : Hid ((st'.go 1).i = st.i + (k + 1)) := by show _ = _; simp only [St.go]; rw [hki]; try omega
         clear hbad hki
         go_wp2_with fail
         go_roundw
         case rel => exact ⟨k + 1, _, st'.go 1, by go_num, rfl, by omega, by omega, by simp [St.go]; omega, by simp [St.go]; omega, ((unhide hL1).drewN _).setI _, (hO.drewN _).mine _ _, Hki, HF1⟩
         case measure => have := unhide Hi; simp [intOf]; omega
namespace Ref
def halfD (s : ByteArray) : Nat → Nat → Int → Int
 | 0, _, c => c
 | n + 1, k, c => if hexV (byteAt s k) < 0 then -1 else halfD s n (k + 1) (16 * c + hexV (byteAt s k))
def halfF (s : ByteArray) (i : Nat) : Int := if s.size < i + 6 ∨ byteAt s i ≠ 92 ∨ byteAt s (i + 1) ≠ 117 then -1 else halfD s 4 (i + 2) 0
theorem halfD_bad {s : ByteArray} {n k : Nat} {c : Int} (h : hexV (byteAt s k) < 0) : halfD s (n + 1) k c = -1 := by simp [halfD, h]
theorem halfD_good {s : ByteArray} {n k : Nat} {c : Int} (h : 0 ≤ hexV (byteAt s k)) : halfD s (n + 1) k c = halfD s n (k + 1) (16 * c + hexV (byteAt s k)) := by
 simp [halfD, show ¬ hexV (byteAt s k) < 0 by omega]
theorem halfF_no {s : ByteArray} {i : Nat} (h : s.size < i + 6 ∨ byteAt s i ≠ 92 ∨ byteAt s (i + 1) ≠ 117) : halfF s i = -1 := by simp only [halfF]; rw [if_pos h]
theorem halfF_yes {s : ByteArray} {i : Nat} (h : ¬ (s.size < i + 6 ∨ byteAt s i ≠ 92 ∨ byteAt s (i + 1) ≠ 117)) : halfF s i = halfD s 4 (i + 2) 0 := by simp only [halfF]; rw [if_neg h]
end Ref
set_option maxHeartbeats 400000 in
theorem half_any (s : ByteArray) (i : Nat) (w : World) (hs : s.size ≤ 400) (hi : i ≤ 1000) :
   Calls Tryz.prog 230 #[.string s, .int .i64 i] w fun x w' => x = .returned (.int .i64 (Ref.halfF s i)) ∧ w' = w := by
 by_cases h1 : s.size < i + 6
 · have HF := hide (Ref.halfF_no (s := s) (i := i) (Or.inl h1))
   go_enter Tryz.func230, Tryz.ntmps230
   go_wp2
   go_ret
   exact ⟨ret_int (unhide HF).symm, rfl⟩
 · have hl0 : i < s.size := by omega
   have hl1 : i + 1 < s.size := by omega
   by_cases h2 : byteAt s i = 92
   · have hb2 : ((s[i].toNat : Int) != 92) = false := by rw [← byteAt_in s i hl0]; simp [h2]
     by_cases h3 : byteAt s (i + 1) = 117
     · have hb3 : ((s[i + 1].toNat : Int) != 117) = false := by rw [← byteAt_in s (i + 1) hl1]; simp [h3]
       have HF := hide (Ref.halfF_yes (s := s) (i := i) (by simp [h2, h3]; omega))
       clear h2 h3
       go_enter Tryz.func230, Tryz.ntmps230
       go_wp2_with fail
       go_loop [5, 6] (fun c k => ∃ (n : Nat) (q : Int), n ≤ 4 ∧ k = .int .i64 ((i + 2 + n : Nat) : Int) ∧ c = .int .i64 q ∧ 0 ≤ q ∧ q < (16 : Int) ^ n ∧ Hid (Ref.halfF s i = Ref.halfD s (4 - n) (i + 2 + n) q))
         (fun _ k => i + 6 - (intOf k).toNat)
       case atStart => exact ⟨0, 0, by omega, by go_num, rfl, by omega, by simp, HF⟩
       case round =>
         obtain ⟨n, q, hn, rfl, rfl, hq0, hq1, HG⟩ := hrel
         have hp : (16 : Int) ^ n ≤ 65536 := pow16_le n (by omega)
         have hd1 := Ref.hexV_hi (byteAt s (i + 2 + n))
         by_cases hlt : n < 4
         · go_wp2_with fail
           rw [byte_wrap, ← byteAt_in s (i + 2 + n) (by omega)]
           refine (hexed_any _ _ (byteAt_lo _ _) (byteAt_hi _ _)).mono ?_
           rintro e w1 ⟨rfl, rfl⟩
           by_cases hd : Ref.hexV (byteAt s (i + 2 + n)) < 0
           · have HF1 : Hid (Ref.halfF s i = -1) := by
               rw [unhide HG, show 4 - n = (3 - n) + 1 by omega]; exact Ref.halfD_bad hd
             go_wp2_with fail
             go_ret
             exact ⟨ret_int (unhide HF1).symm, rfl⟩
           · have HF1 : Hid (Ref.halfF s i = Ref.halfD s (4 - (n + 1)) (i + 2 + (n + 1)) (16 * q + Ref.hexV (byteAt s (i + 2 + n)))) := by
               rw [unhide HG, show 4 - n = (4 - (n + 1)) + 1 by omega]; exact Ref.halfD_good (by omega)
             have hp' : (16 : Int) ^ (n + 1) = 16 * (16 : Int) ^ n := by rw [Int.pow_succ]; omega
             have hpn : 16 * q + Ref.hexV (byteAt s (i + 2 + n)) < (16 : Int) ^ (n + 1) := by omega
             have Hpn := hide hpn
             clear hp' hpn
             generalize hD : Ref.hexV (byteAt s (i + 2 + n)) = D at *
             have HD := hide hD
             clear hD
             go_wp2_with fail
             go_round
             case rel => exact ⟨n + 1, _, by omega, by go_num, rfl, by omega, unhide Hpn, HF1⟩
             case measure => simp [intOf]; omega
         · go_wp2_with fail
           go_ret
           have : n = 4 := by omega
           subst this
           exact ⟨ret_int (unhide HG).symm, rfl⟩
     · have HF := hide (Ref.halfF_no (s := s) (i := i) (Or.inr (Or.inr h3)))
       have hb3 : ((s[i + 1].toNat : Int) != 117) = true := by rw [← byteAt_in s (i + 1) hl1]; simp [h3]
       clear h2 h3
       go_enter Tryz.func230, Tryz.ntmps230
       go_wp2
       go_ret
       exact ⟨ret_int (unhide HF).symm, rfl⟩
   · have HF := hide (Ref.halfF_no (s := s) (i := i) (Or.inr (Or.inl h2)))
     have hb2 : ((s[i].toNat : Int) != 92) = true := by rw [← byteAt_in s i hl0]; simp [h2]
     clear h2
     go_enter Tryz.func230, Tryz.ntmps230
     go_wp2
     go_ret
     exact ⟨ret_int (unhide HF).symm, rfl⟩
namespace Ref
def pairB (s : ByteArray) (st : St) : Bool := decide (55296 ≤ halfF s (st.i - 1)) && decide (halfF s (st.i - 1) ≤ 56319) && decide (56320 ≤ halfF s (st.i + 5)) && decide (halfF s (st.i + 5) ≤ 57343)
def unicodeF (s : ByteArray) (st : St) : Int × St :=
 if byteAt s (st.i + 1) = 123 then bracedR s (st.go 2)
 else if pairB s st = true then (65536 + (halfF s (st.i - 1) - 55296) * 1024 + halfF s (st.i + 5) - 56320, st.go 11)
 else hexF s 4 0 (st.go 1)
def numberF (s : ByteArray) (cls : Bool) (st : St) : Int × St :=
 if 0 ≤ controlV (byteAt s st.i) then (controlV (byteAt s st.i), st.go 1)
 else if byteAt s st.i = 48 then (0, if 48 ≤ byteAt s (st.i + 1) ∧ byteAt s (st.i + 1) ≤ 57 then (st.go 1).fail 3 (st.i + 1 : Nat) else st.go 1)
 else if byteAt s st.i = 99 then
   (if (97 ≤ byteAt s (st.i + 1) ∧ byteAt s (st.i + 1) ≤ 122) ∨ (65 ≤ byteAt s (st.i + 1) ∧ byteAt s (st.i + 1) ≤ 90) then (byteAt s (st.i + 1) % 32, st.go 2) else (0, (st.go 1).fail 3 (st.i + 1 : Nat)))
 else if byteAt s st.i = 120 then hexF s 2 0 (st.go 1)
 else if byteAt s st.i = 117 then unicodeF s st
 else if signB (byteAt s st.i) = true ∨ cls = true ∧ byteAt s st.i = 45 then (byteAt s st.i, st.go 1)
 else if cls = true ∧ byteAt s st.i = 98 then (8, st.go 1)
 else (0, st.fail 3 st.i)
theorem halfD_bd (s : ByteArray) : ∀ (n k : Nat) (c : Int), 0 ≤ c → c < (16 : Int) ^ (4 - n) → n ≤ 4 → -1 ≤ halfD s n k c ∧ halfD s n k c ≤ 65535
 | 0, k, c, h1, h2, _ => by simp only [halfD]; simp at h2; omega
 | n + 1, k, c, h1, h2, h3 => by
   have hp : (16 : Int) ^ (4 - n) = 16 * (16 : Int) ^ (4 - (n + 1)) := by rw [show 4 - n = (4 - (n + 1)) + 1 by omega, Int.pow_succ]; omega
   have hd := hexV_hi (byteAt s k)
   by_cases hb : hexV (byteAt s k) < 0
   · rw [halfD_bad hb]; omega
   · rw [halfD_good (by omega)]
     exact halfD_bd s n (k + 1) _ (by omega) (by omega) (by omega)
theorem halfF_bd (s : ByteArray) (i : Nat) : -1 ≤ halfF s i ∧ halfF s i ≤ 65535 := by
 unfold halfF; split
 · omega
 · exact halfD_bd s 4 _ 0 (by omega) (by decide) (by omega)
end Ref
theorem half_int (s : ByteArray) (i : Int) (w : World) (hs : s.size ≤ 400) (h0 : 0 ≤ i) (hi : i ≤ 1000) :
   Calls Tryz.prog 230 #[.string s, .int .i64 i] w fun x w' => x = .returned (.int .i64 (Ref.halfF s i.toNat)) ∧ w' = w := by
 obtain ⟨n, rfl⟩ := Int.eq_ofNat_of_zero_le h0
 rw [Int.toNat_natCast]
 exact half_any s n w hs (by omega)
theorem Lex.setI {w : World} {b : Nat} {s : ByteArray} {st : St} (h : Lex w b s st) (j : Int) (n : Nat) (hj : j = ((st.i + n : Nat) : Int)) : Lex (w.setCell ⟨b, 1, none⟩ (.int .i64 j)) b s (st.go n) := by
 subst hj; exact LexAt.setI h _
theorem Lex.drewN {w : World} {b : Nat} {s : ByteArray} {st : St} (h : Lex w b s st) (n : Nat) : Lex (w.drewN n) b s st := LexAt.drewN h n
set_option maxHeartbeats 800000 in
theorem unicode_any (b : Nat) (s : ByteArray) (st : St) (w : World) (h : Lex w b s st) (hs : s.size ≤ 400) (hi1 : 1 ≤ st.i) (hi : st.i < s.size) :
   Calls Tryz.prog 209 #[.pointer (some ⟨b, 0, none⟩)] w fun x w' =>
     x = .returned (.int .i64 (Ref.unicodeF s st).1) ∧ Lex w' b s (Ref.unicodeF s st).2 ∧ Only (Mine b) w w' := by
 have hL1 := hide h
 obtain ⟨c0, c1, c2, c3, f1, f2, f3⟩ := h
 have e1 : ((st.i : Int) - 1).toNat = st.i - 1 := by omega
 have e2 : ((st.i : Int) + 5).toNat = st.i + 5 := by omega
 have b1 := Ref.halfF_bd s (st.i - 1)
 have b2 := Ref.halfF_bd s (st.i + 5)
 go_enter Tryz.func209, Tryz.ntmps209
 go_wp2_with fail
 go_quiet ((go_at_call 230; exact (half_int _ _ _ hs (by omega) (by omega)).mono (by rintro e w'' ⟨rfl, rfl⟩; exact ⟨rfl, _, rfl⟩)))
 go_wp2_with fail
 go_quiet ((go_at_call 230; exact (half_int _ _ _ hs (by omega) (by omega)).mono (by rintro e w'' ⟨rfl, rfl⟩; exact ⟨rfl, _, rfl⟩)))
 go_wp2_with fail
 refine (now_lex b s (st.go 1) _ (((unhide hL1).drewN _).setI _ 1 (by omega)) hs).mono ?_
 rintro e w1 ⟨rfl, nq, rfl⟩
 simp only [St.go]
 by_cases hbr : byteAt s (st.i + 1) = 123
 · have hb : (byteAt s (st.i + 1) == 123) = true := by simp [hbr]
   have HF : Hid (Ref.unicodeF s st = Ref.bracedR s (st.go 2)) := by show _ = _; unfold Ref.unicodeF; rw [if_pos hbr]
   have hlt : st.i + 1 < s.size := by rw [← byteAt_nonneg]; omega
   clear hbr
   go_wp2_with fail
   refine (braced_any b s (st.go 2) _ (((((unhide hL1).drewN _).setI _ 1 (by omega)).drewN _).setI _ 1 (by simp only [St.go]; omega)) hs (by simp only [St.go]; omega)).mono ?_
   rintro e w2 ⟨rfl, hL2, hO2⟩
   go_wp2_with fail
   go_ret
   rw [unhide HF]
   exact ⟨rfl, hL2, (((((Only.refl _ _).drewN _).mine _ _).drewN _).mine _ _).trans hO2⟩
 · have hb : (byteAt s (st.i + 1) == 123) = false := by simp [hbr]
   by_cases hp : Ref.pairB s st = true
   · have HF : Hid (Ref.unicodeF s st = (65536 + (Ref.halfF s (st.i - 1) - 55296) * 1024 + Ref.halfF s (st.i + 5) - 56320, st.go 11)) := by show _ = _; unfold Ref.unicodeF; rw [if_neg hbr, if_pos hp]
     simp only [Ref.pairB, Bool.and_eq_true, decide_eq_true_eq] at hp
     obtain ⟨⟨⟨p1, p2⟩, p3⟩, p4⟩ := hp
     clear hbr e1 e2
     go_wp2_with fail
     go_ret
     rw [unhide HF]
     exact ⟨rfl, (((((unhide hL1).drewN _).setI _ 1 (by omega)).drewN _).setI _ 10 (by simp only [St.go]; omega)), ((((Only.refl _ _).drewN _).mine _ _).drewN _).mine _ _⟩
   · have HF : Hid (Ref.unicodeF s st = Ref.hexF s 4 0 (st.go 1)) := by show _ = _; unfold Ref.unicodeF; rw [if_neg hbr, if_neg hp]
     simp only [Ref.pairB, Bool.and_eq_true, decide_eq_true_eq] at hp
     have Hp := hide hp
     clear hbr e1 e2 hp
     go_wp2_with fail
     all_goals first
       | exact absurd (unhide Hp) (by intro hn; exact hn ⟨⟨⟨‹_›, ‹_›⟩, ‹_›⟩, ‹_›⟩)
       | skip
     all_goals
       refine (hex_any b s 4 (st.go 1) _ (by omega) ((((unhide hL1).drewN _).setI _ 1 (by omega)).drewN _) hs (by simp only [St.go]; omega)).mono ?_
       rintro e w2 ⟨rfl, hL2, hO2⟩
       go_wp2_with fail
       go_ret
       rw [unhide HF]
       exact ⟨rfl, hL2, ((((Only.refl _ _).drewN _).mine _ _).drewN _).trans hO2⟩
namespace Ref
end Ref
set_option maxHeartbeats 800000 in
theorem number_any (b : Nat) (s : ByteArray) (cls : Bool) (st : St) (w : World) (h : Lex w b s st) (hs : s.size ≤ 400) (hi1 : 1 ≤ st.i) (hi : st.i ≤ s.size) :
   Calls Tryz.prog 167 #[.pointer (some ⟨b, 0, none⟩), .bool cls] w fun x w' =>
     x = .returned (.int .i64 (Ref.numberF s cls st).1) ∧ Lex w' b s (Ref.numberF s cls st).2 ∧ Only (Mine b) w w' := by
 have hL1 := hide h
 have hlo := byteAt_lo s st.i
 have hhi := byteAt_hi s st.i
 have hlo1 := byteAt_lo s (st.i + 1)
 have hhi1 := byteAt_hi s (st.i + 1)
 have hin : 0 ≤ byteAt s st.i → st.i < s.size := (byteAt_nonneg s st.i).1
 have Hin := hide hin
 clear hin
 go_enter Tryz.func167, Tryz.ntmps167
 go_wp2_with fail
 refine (now_lex b s st _ h hs).mono ?_
 rintro e w1 ⟨rfl, nq, rfl⟩
 go_wp2_with fail
 refine (control_any _ _).mono ?_
 rintro e w1 ⟨rfl, rfl⟩
 obtain ⟨c0, c1, c2, c3, f1, f2, f3⟩ := h
 generalize hB : byteAt s st.i = B at *
 by_cases hc : 0 ≤ Ref.controlV B
 · have HF : Hid (Ref.numberF s cls st = (Ref.controlV B, st.go 1)) := by show _ = _; unfold Ref.numberF; rw [hB, if_pos hc]
   clear hB
   go_wp2_with fail
   go_ret
   rw [unhide HF]
   exact ⟨rfl, ((unhide hL1).drewN _).setI _ 1 (by omega), ((Only.refl _ _).drewN _).mine _ _⟩
 · have HB := hide hB
   have hcc := hide hc
   clear hB
   go_wp2_with fail
   refine (syntax_any _ _ hlo hhi).mono ?_
   rintro e w1 ⟨rfl, rfl⟩
   clear hc
   by_cases x1 : B = 48
   · have hb : (B == 48) = true := by simp [x1]
     by_cases hd : 48 ≤ byteAt s (st.i + 1) ∧ byteAt s (st.i + 1) ≤ 57
     · have HF : Hid (Ref.numberF s cls st = (0, (st.go 1).fail 3 (st.i + 1 : Nat))) := by show _ = _; unfold Ref.numberF; rw [unhide HB, if_neg (show ¬ 0 ≤ Ref.controlV B by have := unhide hcc; omega), if_pos x1, if_pos hd]
       clear x1
       obtain ⟨d1, d2⟩ := hd
       go_wp2_with fail
       refine (now_lex b s (st.go 1) _ (((unhide hL1).drewN _).setI _ 1 (by omega)) hs).mono ?_
       rintro e w1 ⟨rfl, nq1, rfl⟩
       simp only [St.go]
       go_wp2_with fail
       refine (now_lex b s (st.go 1) _ ((((unhide hL1).drewN _).setI _ 1 (by omega)).drewN _) hs).mono ?_
       rintro e w1 ⟨rfl, nq2, rfl⟩
       simp only [St.go]
       go_wp2_with fail
       refine (fail_lex b s (st.go 1) 3 _ _ (((((unhide hL1).drewN _).setI _ 1 (by omega)).drewN _))).mono ?_
       rintro e w2 ⟨rfl, hL2, hO2⟩
       go_wp2_with fail
       go_ret
       rw [unhide HF]
       exact ⟨rfl, hL2, ((((Only.refl _ _).drewN _).mine _ _).drewN _).trans hO2⟩
     · have HF : Hid (Ref.numberF s cls st = (0, st.go 1)) := by show _ = _; unfold Ref.numberF; rw [unhide HB, if_neg (show ¬ 0 ≤ Ref.controlV B by have := unhide hcc; omega), if_pos x1, if_neg hd]
       have Hd := hide hd
       clear x1
       by_cases d1 : 48 ≤ byteAt s (st.i + 1)
       · have d2 : 57 < byteAt s (st.i + 1) := by omega
         clear hd
         go_wp2_with fail
         refine (now_lex b s (st.go 1) _ (((unhide hL1).drewN _).setI _ 1 (by omega)) hs).mono ?_
         rintro e w1 ⟨rfl, nq1, rfl⟩
         simp only [St.go]
         go_wp2_with fail
         refine (now_lex b s (st.go 1) _ ((((unhide hL1).drewN _).setI _ 1 (by omega)).drewN _) hs).mono ?_
         rintro e w1 ⟨rfl, nq2, rfl⟩
         simp only [St.go]
         go_wp2_with fail
         go_ret
         rw [unhide HF]
         exact ⟨rfl, (((unhide hL1).drewN _).setI _ 1 (by omega)).drewN _, (((Only.refl _ _).drewN _).mine _ _).drewN _⟩
       · clear hd
         go_wp2_with fail
         refine (now_lex b s (st.go 1) _ (((unhide hL1).drewN _).setI _ 1 (by omega)) hs).mono ?_
         rintro e w1 ⟨rfl, nq1, rfl⟩
         simp only [St.go]
         go_wp2_with fail
         go_ret
         rw [unhide HF]
         exact ⟨rfl, (((unhide hL1).drewN _).setI _ 1 (by omega)).drewN _, (((Only.refl _ _).drewN _).mine _ _).drewN _⟩
   · have hb : (B == 48) = false := by simp [x1]
     by_cases x2 : B = 99
     · have hb2 : (B == 99) = true := by simp [x2]
       by_cases hd : (97 ≤ byteAt s (st.i + 1) ∧ byteAt s (st.i + 1) ≤ 122) ∨ (65 ≤ byteAt s (st.i + 1) ∧ byteAt s (st.i + 1) ≤ 90)
       · have HF : Hid (Ref.numberF s cls st = (byteAt s (st.i + 1) % 32, st.go 2)) := by show _ = _; unfold Ref.numberF; rw [unhide HB, if_neg (show ¬ 0 ≤ Ref.controlV B by have := unhide hcc; omega), if_neg x1, if_pos x2, if_pos hd]
         have Hd := hide hd
         clear x1 x2 hd
         go_wp2_with fail
         refine (now_lex b s (st.go 1) _ (((unhide hL1).drewN _).setI _ 1 (by omega)) hs).mono ?_
         rintro e w1 ⟨rfl, nq1, rfl⟩
         simp only [St.go]
         rcases unhide Hd with ⟨d1, d2⟩ | ⟨d1, d2⟩
         case' inr => have d3 : ¬ 97 ≤ byteAt s (st.i + 1) := by omega
         all_goals
           go_wp2_with fail
           go_ret
           rw [unhide HF]
           refine ⟨ret_int ?_, ((((unhide hL1).drewN _).setI _ 1 (by omega)).drewN _).setI _ 1 (by simp only [St.go]; omega), ((((Only.refl _ _).drewN _).mine _ _).drewN _).mine _ _⟩
           first | rfl | omega
       · have HF : Hid (Ref.numberF s cls st = (0, (st.go 1).fail 3 (st.i + 1 : Nat))) := by show _ = _; unfold Ref.numberF; rw [unhide HB, if_neg (show ¬ 0 ≤ Ref.controlV B by have := unhide hcc; omega), if_neg x1, if_pos x2, if_neg hd]
         have Hd := hide hd
         clear x1 x2 hd
         go_wp2_with fail
         refine (now_lex b s (st.go 1) _ (((unhide hL1).drewN _).setI _ 1 (by omega)) hs).mono ?_
         rintro e w1 ⟨rfl, nq1, rfl⟩
         simp only [St.go]
         go_wp2_with fail
         all_goals first
           | (exfalso; have := unhide Hd; omega)
           | skip
         all_goals
           refine (fail_lex b s (st.go 1) 3 _ _ (((((unhide hL1).drewN _).setI _ 1 (by omega)).drewN _))).mono ?_
           rintro e w2 ⟨rfl, hL2, hO2⟩
           go_wp2_with fail
           go_ret
           rw [unhide HF]
           exact ⟨rfl, hL2, ((((Only.refl _ _).drewN _).mine _ _).drewN _).trans hO2⟩
     · have hb2 : (B == 99) = false := by simp [x2]
       by_cases x3 : B = 120
       · have hb3 : (B == 120) = true := by simp [x3]
         have HF : Hid (Ref.numberF s cls st = Ref.hexF s 2 0 (st.go 1)) := by show _ = _; unfold Ref.numberF; rw [unhide HB, if_neg (show ¬ 0 ≤ Ref.controlV B by have := unhide hcc; omega), if_neg x1, if_neg x2, if_pos x3]
         clear x1 x2 x3
         go_wp2_with fail
         refine (hex_any b s 2 (st.go 1) _ (by omega) (((unhide hL1).drewN _).setI _ 1 (by omega)) hs (by simp only [St.go]; omega)).mono ?_
         rintro e w2 ⟨rfl, hL2, hO2⟩
         go_wp2_with fail
         go_ret
         rw [unhide HF]
         exact ⟨rfl, hL2, (((Only.refl _ _).drewN _).mine _ _).trans hO2⟩
       · have hb3 : (B == 120) = false := by simp [x3]
         by_cases x4 : B = 117
         · have hb4 : (B == 117) = true := by simp [x4]
           have HF : Hid (Ref.numberF s cls st = Ref.unicodeF s st) := by show _ = _; unfold Ref.numberF; rw [unhide HB, if_neg (show ¬ 0 ≤ Ref.controlV B by have := unhide hcc; omega), if_neg x1, if_neg x2, if_neg x3, if_pos x4]
           have hin := unhide Hin (by omega)
           clear x1 x2 x3 x4
           go_wp2_with fail
           refine (unicode_any b s st _ ((unhide hL1).drewN _) hs hi1 hin).mono ?_
           rintro e w2 ⟨rfl, hL2, hO2⟩
           go_wp2_with fail
           go_ret
           rw [unhide HF]
           exact ⟨rfl, hL2, ((Only.refl _ _).drewN _).trans hO2⟩
         · have hb4 : (B == 117) = false := by simp [x4]
           by_cases x5 : Ref.signB B = true ∨ cls = true ∧ B = 45
           · have HF : Hid (Ref.numberF s cls st = (B, st.go 1)) := by show _ = _; unfold Ref.numberF; rw [unhide HB, if_neg (show ¬ 0 ≤ Ref.controlV B by have := unhide hcc; omega), if_neg x1, if_neg x2, if_neg x3, if_neg x4, if_pos x5]
             have X5 := hide x5
             clear x1 x2 x3 x4 x5
             by_cases y1 : Ref.signB B = true
             case' neg =>
               have y2 : cls = true := by rcases unhide X5 with h | h; exact absurd h y1; exact h.1
               have y3 : (B == 45) = true := by rcases unhide X5 with h | h; exact absurd h y1; simp [h.2]
               have y4 : Ref.signB B = false := by simpa using y1
               clear y1
               subst y2
             all_goals
               go_wp2_with fail
               go_ret
               rw [unhide HF]
               exact ⟨rfl, ((unhide hL1).drewN _).setI _ 1 (by omega), ((Only.refl _ _).drewN _).mine _ _⟩
           · have y4 : Ref.signB B = false := by simp at x5; exact x5.1
             by_cases x6 : cls = true ∧ B = 98
             · have HF : Hid (Ref.numberF s cls st = (8, st.go 1)) := by show _ = _; unfold Ref.numberF; rw [unhide HB, if_neg (show ¬ 0 ≤ Ref.controlV B by have := unhide hcc; omega), if_neg x1, if_neg x2, if_neg x3, if_neg x4, if_neg x5, if_pos x6]
               obtain ⟨y2, y3⟩ := x6
               have y5 : (B == 98) = true := by simp [y3]
               have y6 : (B == 45) = false := by simp [y3]
               clear x1 x2 x3 x4 x5 y3
               subst y2
               go_wp2_with fail
               go_ret
               rw [unhide HF]
               exact ⟨rfl, ((unhide hL1).drewN _).setI _ 1 (by omega), ((Only.refl _ _).drewN _).mine _ _⟩
             · have HF : Hid (Ref.numberF s cls st = (0, st.fail 3 st.i)) := by show _ = _; unfold Ref.numberF; rw [unhide HB, if_neg (show ¬ 0 ≤ Ref.controlV B by have := unhide hcc; omega), if_neg x1, if_neg x2, if_neg x3, if_neg x4, if_neg x5, if_neg x6]
               cases cls
               case' true =>
                 have y5 : (B == 98) = false := by simp at x6; simpa using x6
                 have y6 : (B == 45) = false := by simp at x5; simpa using x5.2
               all_goals
                 clear x1 x2 x3 x4 x5 x6
                 go_wp2_with fail
                 refine (fail_lex b s st 3 _ _ ((unhide hL1).drewN _)).mono ?_
                 rintro e w2 ⟨rfl, hL2, hO2⟩
                 go_wp2_with fail
                 go_ret
                 rw [unhide HF]
                 exact ⟨rfl, hL2, ((Only.refl _ _).drewN _).trans hO2⟩
end Go.Proofs.YtnagphodmfejiaaGreatDoor
