/- The reference's smallest functions: what each answers, for every argument. The reference's readers of digits. The reference's braced numbers and halves of pairs. The reference's escapes of one number. The reference's escapes of one number: behind the backslash. The reference's sets, and its escapes. The reference's escapes. The reference's characters of a text. -/
import Derived.Test.YtdhmllobgijggaaGreatDoorProg
import Derived.Test.YtdhmllobgijggaaGreatDoorKBase
import Derived.WalkSpells
namespace Go.Proofs.YtdhmllobgijggaaGreatDoor
open Go.RowKit

namespace Ref
/-- A digit of sixteen, or -1. -/
def hexV (b : Int) : Int := if 48 ≤ b ∧ b ≤ 57 then b - 48 else if 97 ≤ b ∧ b ≤ 102 then b - 87 else if 65 ≤ b ∧ b ≤ 70 then b - 55 else -1
def leastV (n : Int) : Int := if n = 2 then 128 else if n = 3 then 2048 else if n = 4 then 65536 else 0
def headN (b : Int) : Int := if b < 128 then 1 else if 192 ≤ b ∧ b < 224 then 2 else if 224 ≤ b ∧ b < 240 then 3 else if 240 ≤ b ∧ b < 248 then 4 else 0
def headC (b : Int) : Int := if b < 128 then b else if 192 ≤ b ∧ b < 224 then b - 192 else if 224 ≤ b ∧ b < 240 then b - 224 else if 240 ≤ b ∧ b < 248 then b - 240 else 0
def controlV (b : Int) : Int := if b = 116 then 9 else if b = 110 then 10 else if b = 118 then 11 else if b = 102 then 12 else if b = 114 then 13 else -1
end Ref

theorem ret_two {k l : IntKind} {a b c d : Int} (h : a = b) (g : c = d) : Ending.returned (.tuple #[.int k a, .int l c]) = .returned (.tuple #[.int k b, .int l d]) := by rw [h, g]

theorem ret_bool {a b : Bool} (h : a = b) : Ending.returned (.bool a) = .returned (.bool b) := by rw [h]

theorem ret_int {k : IntKind} {a b : Int} (h : a = b) : Ending.returned (.int k a) = .returned (.int k b) := by rw [h]

set_option maxHeartbeats 400000 in
theorem hexed_any (b : Int) (w : World) (h1 : -1 ≤ b) (h2 : b ≤ 255) :
    Calls Tryz.prog 118 #[.int .i64 b] w fun e w' => e = .returned (.int .i64 (Ref.hexV b)) ∧ w' = w := by
  go_enter Tryz.func118, Tryz.ntmps118
  go_wp2
  all_goals (go_ret; refine ⟨ret_int ?_, rfl⟩; unfold Ref.hexV; (repeat' split) <;> omega)

set_option maxHeartbeats 400000 in
theorem control_any (b : Int) (w : World) :
    Calls Tryz.prog 107 #[.int .i64 b] w fun e w' => e = .returned (.int .i64 (Ref.controlV b)) ∧ w' = w := by
  go_enter Tryz.func107, Tryz.ntmps107
  go_wp2
  all_goals (go_ret; refine ⟨ret_int ?_, rfl⟩; unfold Ref.controlV; simp_all)

set_option maxHeartbeats 400000 in
theorem least_any (n : Int) (w : World) :
    Calls Tryz.prog 54 #[.int .i64 n] w fun e w' => e = .returned (.int .i64 (Ref.leastV n)) ∧ w' = w := by
  go_enter Tryz.func54, Tryz.ntmps54
  go_wp2
  all_goals (go_ret; refine ⟨ret_int ?_, rfl⟩; unfold Ref.leastV; simp_all)

set_option maxHeartbeats 400000 in
theorem head_any (b : Int) (w : World) (h1 : 0 ≤ b) (h2 : b ≤ 255) :
    Calls Tryz.prog 53 #[.int .i64 b] w fun e w' => e = .returned (.tuple #[.int .i64 (Ref.headN b), .int .i64 (Ref.headC b)]) ∧ w' = w := by
  go_enter Tryz.func53, Tryz.ntmps53
  go_wp2
  all_goals go_ret2
  all_goals (refine ⟨ret_two ?_ ?_, rfl⟩ <;> (first | unfold Ref.headN | unfold Ref.headC) <;> (repeat' split) <;> omega)

set_option maxHeartbeats 400000 in
theorem now_any (b : Nat) (s : ByteArray) (i : Nat) (e a : Int) (w : World) (h : LexAt w b s i e a) (_hs : s.size ≤ maxLen) :
    Calls Tryz.prog 55 #[.pointer (some ⟨b, 0, none⟩)] w fun x w' => x = .returned (.int .i64 (byteAt s i)) ∧ ∃ n, w' = w.drewN n := by
  obtain ⟨c0, c1, c2, c3, f1, f2, f3⟩ := h
  unfold maxLen at _hs
  by_cases hlt : i < s.size
  · go_enter Tryz.func55, Tryz.ntmps55
    go_wp2
    go_quiet (fail)
    go_wp2
    go_quiet (fail)
    go_wp2
    go_ret
    exact ⟨ret_int (by rw [byteAt_in s i hlt, byte_wrap]), _, by rw [World.drewN_drewN]⟩
  · go_enter Tryz.func55, Tryz.ntmps55
    go_wp2
    go_quiet (fail)
    go_wp2
    go_ret
    exact ⟨ret_int (by rw [byteAt_out s i (by omega)]), _, rfl⟩

set_option maxHeartbeats 400000 in
theorem fail_any (b : Nat) (s : ByteArray) (i e a e' a' : Int) (w : World) (h : LexAt w b s i e a) :
    Calls Tryz.prog 58 #[.pointer (some ⟨b, 0, none⟩), .int .i64 e', .int .i64 a'] w fun x w' =>
      x = .returned (.tuple #[]) ∧ LexAt w' b s i (if e = 0 then e' else e) (if e = 0 then a' else a) ∧ Only (Mine b) w w' := by
  have h' := hide h
  obtain ⟨c0, c1, c2, c3, f1, f2, f3⟩ := h
  by_cases he : e = 0
  · have hb : (e == 0) = true := by simp [he]
    have He : Hid (e = 0) := he
    clear he
    go_enter Tryz.func58, Tryz.ntmps58
    go_wp2
    go_end0
    exact ⟨rfl, ((unhide h').setE e').setA a', ((Only.refl _ _).mine _ _).mine _ _⟩
  · have hb : (e == 0) = false := by simp [he]
    have He : Hid (¬ e = 0) := he
    clear he
    go_enter Tryz.func58, Tryz.ntmps58
    go_wp2
    go_end0
    exact ⟨rfl, unhide h', Only.refl _ _⟩

/-- A sign of syntax. -/
def Ref.signB (b : Int) : Bool := [94, 36, 92, 46, 42, 43, 63, 40, 41, 91, 93, 123, 125, 124, 47].any fun c => decide (c = b)

theorem Ref.signB_none (b : Int) (x0 : ((94 : Int) == b) = false) (x1 : ((36 : Int) == b) = false) (x2 : ((92 : Int) == b) = false) (x3 : ((46 : Int) == b) = false) (x4 : ((42 : Int) == b) = false)
    (x5 : ((43 : Int) == b) = false) (x6 : ((63 : Int) == b) = false) (x7 : ((40 : Int) == b) = false) (x8 : ((41 : Int) == b) = false) (x9 : ((91 : Int) == b) = false) (x10 : ((93 : Int) == b) = false)
    (x11 : ((123 : Int) == b) = false) (x12 : ((125 : Int) == b) = false) (x13 : ((124 : Int) == b) = false) (x14 : ((47 : Int) == b) = false) : false = Ref.signB b := by
  simp at *
  simp [Ref.signB, *]

set_option maxHeartbeats 400000 in
theorem syntax_any (b : Int) (w : World) (_h1 : -1 ≤ b) (_h2 : b ≤ 255) :
    Calls Tryz.prog 108 #[.int .i64 b] w fun e w' => e = .returned (.bool (Ref.signB b)) ∧ w' = w := by
  have k0 : wrap64 ((({ data := #[94, 36, 92, 46, 42, 43, 63, 40, 41, 91, 93, 123, 125, 124, 47] } : ByteArray)[0]'(by decide)).toNat : Int) = 94 := by decide +kernel
  have k1 : wrap64 ((({ data := #[94, 36, 92, 46, 42, 43, 63, 40, 41, 91, 93, 123, 125, 124, 47] } : ByteArray)[1]'(by decide)).toNat : Int) = 36 := by decide +kernel
  have k2 : wrap64 ((({ data := #[94, 36, 92, 46, 42, 43, 63, 40, 41, 91, 93, 123, 125, 124, 47] } : ByteArray)[2]'(by decide)).toNat : Int) = 92 := by decide +kernel
  have k3 : wrap64 ((({ data := #[94, 36, 92, 46, 42, 43, 63, 40, 41, 91, 93, 123, 125, 124, 47] } : ByteArray)[3]'(by decide)).toNat : Int) = 46 := by decide +kernel
  have k4 : wrap64 ((({ data := #[94, 36, 92, 46, 42, 43, 63, 40, 41, 91, 93, 123, 125, 124, 47] } : ByteArray)[4]'(by decide)).toNat : Int) = 42 := by decide +kernel
  have k5 : wrap64 ((({ data := #[94, 36, 92, 46, 42, 43, 63, 40, 41, 91, 93, 123, 125, 124, 47] } : ByteArray)[5]'(by decide)).toNat : Int) = 43 := by decide +kernel
  have k6 : wrap64 ((({ data := #[94, 36, 92, 46, 42, 43, 63, 40, 41, 91, 93, 123, 125, 124, 47] } : ByteArray)[6]'(by decide)).toNat : Int) = 63 := by decide +kernel
  have k7 : wrap64 ((({ data := #[94, 36, 92, 46, 42, 43, 63, 40, 41, 91, 93, 123, 125, 124, 47] } : ByteArray)[7]'(by decide)).toNat : Int) = 40 := by decide +kernel
  have k8 : wrap64 ((({ data := #[94, 36, 92, 46, 42, 43, 63, 40, 41, 91, 93, 123, 125, 124, 47] } : ByteArray)[8]'(by decide)).toNat : Int) = 41 := by decide +kernel
  have k9 : wrap64 ((({ data := #[94, 36, 92, 46, 42, 43, 63, 40, 41, 91, 93, 123, 125, 124, 47] } : ByteArray)[9]'(by decide)).toNat : Int) = 91 := by decide +kernel
  have k10 : wrap64 ((({ data := #[94, 36, 92, 46, 42, 43, 63, 40, 41, 91, 93, 123, 125, 124, 47] } : ByteArray)[10]'(by decide)).toNat : Int) = 93 := by decide +kernel
  have k11 : wrap64 ((({ data := #[94, 36, 92, 46, 42, 43, 63, 40, 41, 91, 93, 123, 125, 124, 47] } : ByteArray)[11]'(by decide)).toNat : Int) = 123 := by decide +kernel
  have k12 : wrap64 ((({ data := #[94, 36, 92, 46, 42, 43, 63, 40, 41, 91, 93, 123, 125, 124, 47] } : ByteArray)[12]'(by decide)).toNat : Int) = 125 := by decide +kernel
  have k13 : wrap64 ((({ data := #[94, 36, 92, 46, 42, 43, 63, 40, 41, 91, 93, 123, 125, 124, 47] } : ByteArray)[13]'(by decide)).toNat : Int) = 124 := by decide +kernel
  have k14 : wrap64 ((({ data := #[94, 36, 92, 46, 42, 43, 63, 40, 41, 91, 93, 123, 125, 124, 47] } : ByteArray)[14]'(by decide)).toNat : Int) = 47 := by decide +kernel
  go_enter Tryz.func108, Tryz.ntmps108
  go_wp2
  refine wp_loop_rounds 16 ?_
  iterate 16 (all_goals (try rw [rounds_succ]); all_goals (try go_wp2))
  all_goals (go_ret; refine ⟨ret_bool ?_, rfl⟩)
  all_goals (clear k0 k1 k2 k3 k4 k5 k6 k7 k8 k9 k10 k11 k12 k13 k14)
  all_goals (simp_all [Ref.signB])
  all_goals omega

set_option maxHeartbeats 400000 in
theorem least2_any (a b : Int) (w : World) :
    Calls Tryz.prog 61 #[.int .i64 a, .int .i64 b] w fun e w' => e = .returned (.int .i64 (if a < b then a else b)) ∧ w' = w := by
  go_enter Tryz.func61, Tryz.ntmps61
  go_wp2
  all_goals (go_ret; refine ⟨ret_int ?_, rfl⟩; first | rfl | (split <;> omega))

end Go.Proofs.YtdhmllobgijggaaGreatDoor
namespace Go.Proofs.YtdhmllobgijggaaGreatDoor
open Go.RowKit

namespace Ref
def hexF (s : ByteArray) : Nat → Int → St → Int × St
  | 0, c, st => (c, st)
  | n + 1, c, st => if hexV (byteAt s st.i) < 0 then (0, st.fail 3 st.i) else hexF s n (16 * c + hexV (byteAt s st.i)) (st.go 1)

theorem hexV_hi (b : Int) : hexV b ≤ 15 := by unfold hexV; (repeat' split) <;> omega
theorem hexV_lo (b : Int) : -1 ≤ hexV b := by unfold hexV; (repeat' split) <;> omega

theorem hexF_bad {s : ByteArray} {n : Nat} {c : Int} {st : St} (h : hexV (byteAt s st.i) < 0) : hexF s (n + 1) c st = (0, st.fail 3 st.i) := by simp [hexF, h]
theorem hexF_good {s : ByteArray} {n : Nat} {c : Int} {st : St} (h : 0 ≤ hexV (byteAt s st.i)) : hexF s (n + 1) c st = hexF s n (16 * c + hexV (byteAt s st.i)) (st.go 1) := by
  simp [hexF, show ¬ hexV (byteAt s st.i) < 0 by omega]
end Ref

theorem pow16_le (k : Nat) (h : k ≤ 4) : (16 : Int) ^ k ≤ 65536 := by
  have h5 : k = 0 ∨ k = 1 ∨ k = 2 ∨ k = 3 ∨ k = 4 := by omega
  rcases h5 with rfl | rfl | rfl | rfl | rfl <;> decide

theorem now_lex (b : Nat) (s : ByteArray) (st : St) (w : World) (h : Lex w b s st) (hs : s.size ≤ 400) :
    Calls Tryz.prog 55 #[.pointer (some ⟨b, 0, none⟩)] w fun x w' => x = .returned (.int .i64 (byteAt s st.i)) ∧ ∃ n, w' = w.drewN n :=
  now_any b s st.i st.e st.a w h (by unfold maxLen; omega)

theorem fail_lex (b : Nat) (s : ByteArray) (st : St) (e' a' : Int) (w : World) (h : Lex w b s st) :
    Calls Tryz.prog 58 #[.pointer (some ⟨b, 0, none⟩), .int .i64 e', .int .i64 a'] w fun x w' =>
      x = .returned (.tuple #[]) ∧ Lex w' b s (st.fail e' a') ∧ Only (Mine b) w w' :=
  (fail_any b s st.i st.e st.a e' a' w h).mono fun x w' ⟨h1, h2, h3⟩ => ⟨h1, by
    unfold Lex St.fail
    split
    · rename_i he; simpa [he] using h2
    · rename_i he; simpa [he] using h2, h3⟩

set_option maxHeartbeats 400000 in
theorem hex_any (b : Nat) (s : ByteArray) (n : Nat) (st : St) (w : World) (hn : n ≤ 4) (h : Lex w b s st) (hs : s.size ≤ 400) (hi : st.i ≤ 1000) :
    Calls Tryz.prog 109 #[.pointer (some ⟨b, 0, none⟩), .int .i64 n] w fun x w' =>
      x = .returned (.int .i64 (Ref.hexF s n 0 st).1) ∧ Lex w' b s (Ref.hexF s n 0 st).2 ∧ Only (Mine b) w w' := by
  go_enter Tryz.func109, Tryz.ntmps109
  go_wp2_with fail
  go_loopw [5, 6] (fun c i wr => ∃ (k : Nat) (q : Int) (st' : St), k ≤ n ∧ i = .int .i64 k ∧ c = .int .i64 q ∧ 0 ≤ q ∧ q < (16 : Int) ^ k ∧ st'.i ≤ 1000 + k ∧ Lex wr b s st' ∧ Only (Mine b) w wr ∧ Hid (Ref.hexF s n 0 st = Ref.hexF s (n - k) q st'))
    (fun _ i _ => n - (intOf i).toNat)
  case atStart => exact ⟨0, 0, st, Nat.zero_le _, rfl, rfl, by omega, by simp, by omega, h, Only.refl _ _, rfl⟩
  case round =>
    obtain ⟨k, q, st', hk, rfl, rfl, hq0, hq1, hi', hL, hO, HF⟩ := hrel
    have hp : (16 : Int) ^ k ≤ 65536 := pow16_le k (by omega)
    have hd1 := Ref.hexV_hi (byteAt s st'.i)
    by_cases hlt : k < n
    · go_wp2_with fail
      refine (now_lex b s st' _ hL hs).mono ?_
      rintro e w1 ⟨rfl, nq, rfl⟩
      go_wp2_with fail
      refine (hexed_any _ _ (byteAt_lo _ _) (byteAt_hi _ _)).mono ?_
      rintro e w1 ⟨rfl, rfl⟩
      have hL1 := hide hL
      obtain ⟨c0, c1, c2, c3, f1, f2, f3⟩ := hL
      by_cases hd : Ref.hexV (byteAt s st'.i) < 0
      · have HF1 : Hid (Ref.hexF s n 0 st = (0, st'.fail 3 st'.i)) := by
          rw [unhide HF, show n - k = (n - k - 1) + 1 by omega]; exact Ref.hexF_bad hd
        go_wp2_with fail
        refine (fail_lex b s st' 3 st'.i _ ((unhide hL1).drewN nq)).mono ?_
        rintro e w2 ⟨rfl, hL2, hO2⟩
        go_wp2_with fail
        go_ret
        rw [unhide HF1]
        exact ⟨rfl, hL2, (hO.drewN nq).trans hO2⟩
      · have HF1 : Hid (Ref.hexF s n 0 st = Ref.hexF s (n - (k + 1)) (16 * q + Ref.hexV (byteAt s st'.i)) (st'.go 1)) := by
          rw [unhide HF, show n - k = (n - (k + 1)) + 1 by omega]; exact Ref.hexF_good (by omega)
        have hp' : (16 : Int) ^ (k + 1) = 16 * (16 : Int) ^ k := by rw [Int.pow_succ]; omega
        have hpn : 16 * q + Ref.hexV (byteAt s st'.i) < (16 : Int) ^ (k + 1) := by omega
        have Hpn := hide hpn
        clear hp' hpn
        generalize hD : Ref.hexV (byteAt s st'.i) = D at *
        have HD := hide hD
        clear hD
        go_wp2_with fail
        go_roundw
        case rel => exact ⟨k + 1, _, st'.go 1, by omega, by go_num, rfl, by omega, unhide Hpn, by simp [St.go]; omega, ((unhide hL1).drewN nq).setI _, ((hO.drewN nq).mine _ _), HF1⟩
        case measure => simp [intOf]; omega
    · have HF1 : Hid (Ref.hexF s n 0 st = (q, st')) := by
        rw [unhide HF, show n - k = 0 by omega]; rfl
      go_wp2_with fail
      go_ret
      rw [unhide HF1]
      exact ⟨rfl, hL, hO⟩

end Go.Proofs.YtdhmllobgijggaaGreatDoor
namespace Go.Proofs.YtdhmllobgijggaaGreatDoor
open Go.RowKit

namespace Ref
def bracedF (s : ByteArray) : Nat → Int → Nat → St → Int × St
  | 0, _, _, st => (0, st)
  | f + 1, c, n, st =>
    if 0 < n ∧ byteAt s st.i = 125 then (c, st.go 1)
    else if hexV (byteAt s st.i) < 0 ∨ 1114111 < 16 * c + hexV (byteAt s st.i) then (0, st.fail 3 st.i)
    else bracedF s f (16 * c + hexV (byteAt s st.i)) (n + 1) (st.go 1)

theorem bracedF_close {s : ByteArray} {f n : Nat} {c : Int} {st : St} (h : 0 < n) (h2 : byteAt s st.i = 125) : bracedF s (f + 1) c n st = (c, st.go 1) := by simp [bracedF, h, h2]
theorem bracedF_bad {s : ByteArray} {f n : Nat} {c : Int} {st : St} (h : ¬ (0 < n ∧ byteAt s st.i = 125)) (h2 : hexV (byteAt s st.i) < 0 ∨ 1114111 < 16 * c + hexV (byteAt s st.i)) :
    bracedF s (f + 1) c n st = (0, st.fail 3 st.i) := by simp only [bracedF]; rw [if_neg h, if_pos h2]
theorem bracedF_good {s : ByteArray} {f n : Nat} {c : Int} {st : St} (h : ¬ (0 < n ∧ byteAt s st.i = 125)) (h2 : ¬ (hexV (byteAt s st.i) < 0 ∨ 1114111 < 16 * c + hexV (byteAt s st.i))) :
    bracedF s (f + 1) c n st = bracedF s f (16 * c + hexV (byteAt s st.i)) (n + 1) (st.go 1) := by simp only [bracedF]; rw [if_neg h, if_neg h2]
def bracedR (s : ByteArray) (st : St) : Int × St := bracedF s (s.size + 1 - st.i) 0 0 st
theorem hexV_neg : hexV (-1) = -1 := by decide
end Ref

set_option maxHeartbeats 400000 in
theorem braced_any (b : Nat) (s : ByteArray) (st : St) (w : World) (h : Lex w b s st) (hs : s.size ≤ 400) (hi : st.i ≤ s.size) :
    Calls Tryz.prog 120 #[.pointer (some ⟨b, 0, none⟩)] w fun x w' =>
      x = .returned (.int .i64 (Ref.bracedR s st).1) ∧ Lex w' b s (Ref.bracedR s st).2 ∧ Only (Mine b) w w' := by
  go_enter Tryz.func120, Tryz.ntmps120
  go_wp2_with fail
  go_loopw [3, 4] (fun c n wr => ∃ (k : Nat) (q : Int) (st' : St), n = .int .i64 k ∧ c = .int .i64 q ∧ 0 ≤ q ∧ q ≤ 1114111 ∧ st'.i ≤ s.size ∧ k ≤ st'.i ∧ Lex wr b s st' ∧ Only (Mine b) w wr ∧ Hid (st'.i = st.i + k) ∧ Hid (Ref.bracedR s st = Ref.bracedF s (s.size + 1 - st'.i) q k st'))
    (fun _ n _ => s.size - st.i - (intOf n).toNat)
  case atStart => exact ⟨0, 0, st, rfl, rfl, by omega, by omega, hi, by omega, h, Only.refl _ _, rfl, rfl⟩
  case round =>
    obtain ⟨k, q, st', rfl, rfl, hq0, hq1, hi', hk, hL, hO, Hi, HF⟩ := hrel
    have hd1 := Ref.hexV_hi (byteAt s st'.i)
    have hL1 := hide hL
    have hfu : Hid (s.size + 1 - st'.i = (s.size - st'.i) + 1) := by show _ = _; omega
    by_cases hcl : 0 < k ∧ byteAt s st'.i = 125
    · have HF1 : Hid (Ref.bracedR s st = (q, st'.go 1)) := by
        rw [unhide HF, unhide hfu]; exact Ref.bracedF_close hcl.1 hcl.2
      have hk1 : 0 < k := hcl.1
      have hb : (byteAt s st'.i == 125) = true := by simp [hcl.2]
      clear hcl
      go_wp2_with fail
      refine (now_lex b s st' _ hL hs).mono ?_
      rintro e w1 ⟨rfl, nq, rfl⟩
      obtain ⟨c0, c1, c2, c3, f1, f2, f3⟩ := hL
      go_wp2_with fail
      go_ret
      rw [unhide HF1]
      exact ⟨rfl, ((unhide hL1).drewN nq).setI _, ((hO.drewN nq).mine _ _)⟩
    · have hcl' := hide hcl
      by_cases hk0 : k = 0
      case' pos =>
        have hkd : decide (0 < k) = false := by simp [hk0]
        clear hcl hk0
      case' neg =>
        have hk1 : 0 < k := by omega
        have hb : (byteAt s st'.i == 125) = false := by simp only [beq_eq_false_iff_ne]; intro hbb; exact hcl ⟨hk1, hbb⟩
        clear hcl
        go_wp2_with fail
        refine (now_lex b s st' _ hL hs).mono ?_
        rintro e w1 ⟨rfl, nq1, rfl⟩
      all_goals
        go_wp2_with fail
        refine (now_lex b s st' _ (by first | exact hL | exact hL.drewN _) hs).mono ?_
        rintro e w1 ⟨rfl, nq, rfl⟩
        go_wp2_with fail
        refine (hexed_any _ _ (byteAt_lo _ _) (byteAt_hi _ _)).mono ?_
        rintro e w1 ⟨rfl, rfl⟩
        obtain ⟨c0, c1, c2, c3, f1, f2, f3⟩ := hL
        generalize hD : Ref.hexV (byteAt s st'.i) = D at *
        have HD := hide hD
        clear hD
        by_cases hbad : D < 0 ∨ 1114111 < 16 * q + D
        · have HF1 : Hid (Ref.bracedR s st = (0, st'.fail 3 st'.i)) := by
            rw [unhide HF, unhide hfu]; exact Ref.bracedF_bad (unhide hcl') (by rw [unhide HD]; exact hbad)
          by_cases hD0 : D < 0
          case' neg => have hbad2 : 1114111 < 16 * q + D := by omega
          all_goals clear hbad
          all_goals
            go_wp2_with fail
            refine (fail_lex b s st' 3 st'.i _ ((unhide hL1).drewN _)).mono ?_
            rintro e w2 ⟨rfl, hL2, hO2⟩
            go_wp2_with fail
            go_ret
            rw [unhide HF1]
            exact ⟨rfl, hL2, (hO.drewN _).trans hO2⟩
        · have hlt : st'.i < s.size := by
            apply Classical.byContradiction; intro hn
            have := byteAt_out s st'.i (by omega)
            rw [this, Ref.hexV_neg] at HD
            have := unhide HD; omega
          have HF1 : Hid (Ref.bracedR s st = Ref.bracedF s (s.size + 1 - (st'.go 1).i) (16 * q + D) (k + 1) (st'.go 1)) := by
            rw [unhide HF, unhide hfu, show s.size + 1 - (st'.go 1).i = s.size - st'.i by simp only [St.go]; omega, ← unhide HD]; exact Ref.bracedF_good (unhide hcl') (by rw [unhide HD]; exact hbad)
          have h1 : 0 ≤ D := by omega
          have h2 : 16 * q + D ≤ 1114111 := by omega
          have hki := unhide Hi
          have Hki : Hid ((st'.go 1).i = st.i + (k + 1)) := by show _ = _; simp only [St.go]; rw [hki]; try omega
          clear hbad hki
          go_wp2_with fail
          go_roundw
          case rel => exact ⟨k + 1, _, st'.go 1, by go_num, rfl, by omega, by omega, by simp [St.go]; omega, by simp [St.go]; omega, ((unhide hL1).drewN _).setI _, (hO.drewN _).mine _ _, Hki, HF1⟩
          case measure => have := unhide Hi; simp [intOf]; omega

namespace Ref
def halfD (s : ByteArray) : Nat → Nat → Int → Int
  | 0, _, c => c
  | n + 1, k, c => if hexV (byteAt s k) < 0 then -1 else halfD s n (k + 1) (16 * c + hexV (byteAt s k))
def halfF (s : ByteArray) (i : Nat) : Int := if s.size < i + 6 ∨ byteAt s i ≠ 92 ∨ byteAt s (i + 1) ≠ 117 then -1 else halfD s 4 (i + 2) 0
theorem halfD_bad {s : ByteArray} {n k : Nat} {c : Int} (h : hexV (byteAt s k) < 0) : halfD s (n + 1) k c = -1 := by simp [halfD, h]
theorem halfD_good {s : ByteArray} {n k : Nat} {c : Int} (h : 0 ≤ hexV (byteAt s k)) : halfD s (n + 1) k c = halfD s n (k + 1) (16 * c + hexV (byteAt s k)) := by
  simp [halfD, show ¬ hexV (byteAt s k) < 0 by omega]
theorem halfF_no {s : ByteArray} {i : Nat} (h : s.size < i + 6 ∨ byteAt s i ≠ 92 ∨ byteAt s (i + 1) ≠ 117) : halfF s i = -1 := by simp only [halfF]; rw [if_pos h]
theorem halfF_yes {s : ByteArray} {i : Nat} (h : ¬ (s.size < i + 6 ∨ byteAt s i ≠ 92 ∨ byteAt s (i + 1) ≠ 117)) : halfF s i = halfD s 4 (i + 2) 0 := by simp only [halfF]; rw [if_neg h]
end Ref

set_option maxHeartbeats 400000 in
theorem half_any (s : ByteArray) (i : Nat) (w : World) (hs : s.size ≤ 400) (hi : i ≤ 1000) :
    Calls Tryz.prog 119 #[.string s, .int .i64 i] w fun x w' => x = .returned (.int .i64 (Ref.halfF s i)) ∧ w' = w := by
  by_cases h1 : s.size < i + 6
  · have HF := hide (Ref.halfF_no (s := s) (i := i) (Or.inl h1))
    go_enter Tryz.func119, Tryz.ntmps119
    go_wp2
    go_ret
    exact ⟨ret_int (unhide HF).symm, rfl⟩
  · have hl0 : i < s.size := by omega
    have hl1 : i + 1 < s.size := by omega
    by_cases h2 : byteAt s i = 92
    · have hb2 : ((s[i].toNat : Int) != 92) = false := by rw [← byteAt_in s i hl0]; simp [h2]
      by_cases h3 : byteAt s (i + 1) = 117
      · have hb3 : ((s[i + 1].toNat : Int) != 117) = false := by rw [← byteAt_in s (i + 1) hl1]; simp [h3]
        have HF := hide (Ref.halfF_yes (s := s) (i := i) (by simp [h2, h3]; omega))
        clear h2 h3
        go_enter Tryz.func119, Tryz.ntmps119
        go_wp2_with fail
        go_loop [5, 6] (fun c k => ∃ (n : Nat) (q : Int), n ≤ 4 ∧ k = .int .i64 ((i + 2 + n : Nat) : Int) ∧ c = .int .i64 q ∧ 0 ≤ q ∧ q < (16 : Int) ^ n ∧ Hid (Ref.halfF s i = Ref.halfD s (4 - n) (i + 2 + n) q))
          (fun _ k => i + 6 - (intOf k).toNat)
        case atStart => exact ⟨0, 0, by omega, by go_num, rfl, by omega, by simp, HF⟩
        case round =>
          obtain ⟨n, q, hn, rfl, rfl, hq0, hq1, HG⟩ := hrel
          have hp : (16 : Int) ^ n ≤ 65536 := pow16_le n (by omega)
          have hd1 := Ref.hexV_hi (byteAt s (i + 2 + n))
          by_cases hlt : n < 4
          · go_wp2_with fail
            rw [byte_wrap, ← byteAt_in s (i + 2 + n) (by omega)]
            refine (hexed_any _ _ (byteAt_lo _ _) (byteAt_hi _ _)).mono ?_
            rintro e w1 ⟨rfl, rfl⟩
            by_cases hd : Ref.hexV (byteAt s (i + 2 + n)) < 0
            · have HF1 : Hid (Ref.halfF s i = -1) := by
                rw [unhide HG, show 4 - n = (3 - n) + 1 by omega]; exact Ref.halfD_bad hd
              go_wp2_with fail
              go_ret
              exact ⟨ret_int (unhide HF1).symm, rfl⟩
            · have HF1 : Hid (Ref.halfF s i = Ref.halfD s (4 - (n + 1)) (i + 2 + (n + 1)) (16 * q + Ref.hexV (byteAt s (i + 2 + n)))) := by
                rw [unhide HG, show 4 - n = (4 - (n + 1)) + 1 by omega]; exact Ref.halfD_good (by omega)
              have hp' : (16 : Int) ^ (n + 1) = 16 * (16 : Int) ^ n := by rw [Int.pow_succ]; omega
              have hpn : 16 * q + Ref.hexV (byteAt s (i + 2 + n)) < (16 : Int) ^ (n + 1) := by omega
              have Hpn := hide hpn
              clear hp' hpn
              generalize hD : Ref.hexV (byteAt s (i + 2 + n)) = D at *
              have HD := hide hD
              clear hD
              go_wp2_with fail
              go_round
              case rel => exact ⟨n + 1, _, by omega, by go_num, rfl, by omega, unhide Hpn, HF1⟩
              case measure => simp [intOf]; omega
          · go_wp2_with fail
            go_ret
            have : n = 4 := by omega
            subst this
            exact ⟨ret_int (unhide HG).symm, rfl⟩
      · have HF := hide (Ref.halfF_no (s := s) (i := i) (Or.inr (Or.inr h3)))
        have hb3 : ((s[i + 1].toNat : Int) != 117) = true := by rw [← byteAt_in s (i + 1) hl1]; simp [h3]
        clear h2 h3
        go_enter Tryz.func119, Tryz.ntmps119
        go_wp2
        go_ret
        exact ⟨ret_int (unhide HF).symm, rfl⟩
    · have HF := hide (Ref.halfF_no (s := s) (i := i) (Or.inr (Or.inl h2)))
      have hb2 : ((s[i].toNat : Int) != 92) = true := by rw [← byteAt_in s i hl0]; simp [h2]
      clear h2
      go_enter Tryz.func119, Tryz.ntmps119
      go_wp2
      go_ret
      exact ⟨ret_int (unhide HF).symm, rfl⟩

end Go.Proofs.YtdhmllobgijggaaGreatDoor
namespace Go.Proofs.YtdhmllobgijggaaGreatDoor
open Go.RowKit

namespace Ref
def pairB (s : ByteArray) (st : St) : Bool := decide (55296 ≤ halfF s (st.i - 1)) && decide (halfF s (st.i - 1) ≤ 56319) && decide (56320 ≤ halfF s (st.i + 5)) && decide (halfF s (st.i + 5) ≤ 57343)
def unicodeF (s : ByteArray) (st : St) : Int × St :=
  if byteAt s (st.i + 1) = 123 then bracedR s (st.go 2)
  else if pairB s st = true then (65536 + (halfF s (st.i - 1) - 55296) * 1024 + halfF s (st.i + 5) - 56320, st.go 11)
  else hexF s 4 0 (st.go 1)
def numberF (s : ByteArray) (cls : Bool) (st : St) : Int × St :=
  if 0 ≤ controlV (byteAt s st.i) then (controlV (byteAt s st.i), st.go 1)
  else if byteAt s st.i = 48 then (0, if 48 ≤ byteAt s (st.i + 1) ∧ byteAt s (st.i + 1) ≤ 57 then (st.go 1).fail 3 (st.i + 1 : Nat) else st.go 1)
  else if byteAt s st.i = 99 then
    (if (97 ≤ byteAt s (st.i + 1) ∧ byteAt s (st.i + 1) ≤ 122) ∨ (65 ≤ byteAt s (st.i + 1) ∧ byteAt s (st.i + 1) ≤ 90) then (byteAt s (st.i + 1) % 32, st.go 2) else (0, (st.go 1).fail 3 (st.i + 1 : Nat)))
  else if byteAt s st.i = 120 then hexF s 2 0 (st.go 1)
  else if byteAt s st.i = 117 then unicodeF s st
  else if signB (byteAt s st.i) = true ∨ cls = true ∧ byteAt s st.i = 45 then (byteAt s st.i, st.go 1)
  else if cls = true ∧ byteAt s st.i = 98 then (8, st.go 1)
  else (0, st.fail 3 st.i)
theorem halfD_bd (s : ByteArray) : ∀ (n k : Nat) (c : Int), 0 ≤ c → c < (16 : Int) ^ (4 - n) → n ≤ 4 → -1 ≤ halfD s n k c ∧ halfD s n k c ≤ 65535
  | 0, k, c, h1, h2, _ => by simp only [halfD]; simp at h2; omega
  | n + 1, k, c, h1, h2, h3 => by
    have hp : (16 : Int) ^ (4 - n) = 16 * (16 : Int) ^ (4 - (n + 1)) := by rw [show 4 - n = (4 - (n + 1)) + 1 by omega, Int.pow_succ]; omega
    have hd := hexV_hi (byteAt s k)
    by_cases hb : hexV (byteAt s k) < 0
    · rw [halfD_bad hb]; omega
    · rw [halfD_good (by omega)]
      exact halfD_bd s n (k + 1) _ (by omega) (by omega) (by omega)
theorem halfF_bd (s : ByteArray) (i : Nat) : -1 ≤ halfF s i ∧ halfF s i ≤ 65535 := by
  unfold halfF; split
  · omega
  · exact halfD_bd s 4 _ 0 (by omega) (by decide) (by omega)
end Ref

theorem half_int (s : ByteArray) (i : Int) (w : World) (hs : s.size ≤ 400) (h0 : 0 ≤ i) (hi : i ≤ 1000) :
    Calls Tryz.prog 119 #[.string s, .int .i64 i] w fun x w' => x = .returned (.int .i64 (Ref.halfF s i.toNat)) ∧ w' = w := by
  obtain ⟨n, rfl⟩ := Int.eq_ofNat_of_zero_le h0
  rw [Int.toNat_natCast]
  exact half_any s n w hs (by omega)

theorem Lex.setI {w : World} {b : Nat} {s : ByteArray} {st : St} (h : Lex w b s st) (j : Int) (n : Nat) (hj : j = ((st.i + n : Nat) : Int)) : Lex (w.setCell ⟨b, 1, none⟩ (.int .i64 j)) b s (st.go n) := by
  subst hj; exact LexAt.setI h _
theorem Lex.drewN {w : World} {b : Nat} {s : ByteArray} {st : St} (h : Lex w b s st) (n : Nat) : Lex (w.drewN n) b s st := LexAt.drewN h n

set_option maxHeartbeats 800000 in
theorem unicode_any (b : Nat) (s : ByteArray) (st : St) (w : World) (h : Lex w b s st) (hs : s.size ≤ 400) (hi1 : 1 ≤ st.i) (hi : st.i < s.size) :
    Calls Tryz.prog 110 #[.pointer (some ⟨b, 0, none⟩)] w fun x w' =>
      x = .returned (.int .i64 (Ref.unicodeF s st).1) ∧ Lex w' b s (Ref.unicodeF s st).2 ∧ Only (Mine b) w w' := by
  have hL1 := hide h
  obtain ⟨c0, c1, c2, c3, f1, f2, f3⟩ := h
  have e1 : ((st.i : Int) - 1).toNat = st.i - 1 := by omega
  have e2 : ((st.i : Int) + 5).toNat = st.i + 5 := by omega
  have b1 := Ref.halfF_bd s (st.i - 1)
  have b2 := Ref.halfF_bd s (st.i + 5)
  go_enter Tryz.func110, Tryz.ntmps110
  go_wp2_with fail
  go_quiet ((go_at_call 119; exact (half_int _ _ _ hs (by omega) (by omega)).mono (by rintro e w'' ⟨rfl, rfl⟩; exact ⟨rfl, _, rfl⟩)))
  go_wp2_with fail
  go_quiet ((go_at_call 119; exact (half_int _ _ _ hs (by omega) (by omega)).mono (by rintro e w'' ⟨rfl, rfl⟩; exact ⟨rfl, _, rfl⟩)))
  go_wp2_with fail
  refine (now_lex b s (st.go 1) _ (((unhide hL1).drewN _).setI _ 1 (by omega)) hs).mono ?_
  rintro e w1 ⟨rfl, nq, rfl⟩
  simp only [St.go]
  by_cases hbr : byteAt s (st.i + 1) = 123
  · have hb : (byteAt s (st.i + 1) == 123) = true := by simp [hbr]
    have HF : Hid (Ref.unicodeF s st = Ref.bracedR s (st.go 2)) := by show _ = _; unfold Ref.unicodeF; rw [if_pos hbr]
    have hlt : st.i + 1 < s.size := by rw [← byteAt_nonneg]; omega
    clear hbr
    go_wp2_with fail
    refine (braced_any b s (st.go 2) _ (((((unhide hL1).drewN _).setI _ 1 (by omega)).drewN _).setI _ 1 (by simp only [St.go]; omega)) hs (by simp only [St.go]; omega)).mono ?_
    rintro e w2 ⟨rfl, hL2, hO2⟩
    go_wp2_with fail
    go_ret
    rw [unhide HF]
    exact ⟨rfl, hL2, (((((Only.refl _ _).drewN _).mine _ _).drewN _).mine _ _).trans hO2⟩
  · have hb : (byteAt s (st.i + 1) == 123) = false := by simp [hbr]
    by_cases hp : Ref.pairB s st = true
    · have HF : Hid (Ref.unicodeF s st = (65536 + (Ref.halfF s (st.i - 1) - 55296) * 1024 + Ref.halfF s (st.i + 5) - 56320, st.go 11)) := by show _ = _; unfold Ref.unicodeF; rw [if_neg hbr, if_pos hp]
      simp only [Ref.pairB, Bool.and_eq_true, decide_eq_true_eq] at hp
      obtain ⟨⟨⟨p1, p2⟩, p3⟩, p4⟩ := hp
      clear hbr e1 e2
      go_wp2_with fail
      go_ret
      rw [unhide HF]
      exact ⟨rfl, (((((unhide hL1).drewN _).setI _ 1 (by omega)).drewN _).setI _ 10 (by simp only [St.go]; omega)), ((((Only.refl _ _).drewN _).mine _ _).drewN _).mine _ _⟩
    · have HF : Hid (Ref.unicodeF s st = Ref.hexF s 4 0 (st.go 1)) := by show _ = _; unfold Ref.unicodeF; rw [if_neg hbr, if_neg hp]
      simp only [Ref.pairB, Bool.and_eq_true, decide_eq_true_eq] at hp
      have Hp := hide hp
      clear hbr e1 e2 hp
      go_wp2_with fail
      all_goals first
        | exact absurd (unhide Hp) (by intro hn; exact hn ⟨⟨⟨‹_›, ‹_›⟩, ‹_›⟩, ‹_›⟩)
        | skip
      all_goals
        refine (hex_any b s 4 (st.go 1) _ (by omega) ((((unhide hL1).drewN _).setI _ 1 (by omega)).drewN _) hs (by simp only [St.go]; omega)).mono ?_
        rintro e w2 ⟨rfl, hL2, hO2⟩
        go_wp2_with fail
        go_ret
        rw [unhide HF]
        exact ⟨rfl, hL2, ((((Only.refl _ _).drewN _).mine _ _).drewN _).trans hO2⟩

end Go.Proofs.YtdhmllobgijggaaGreatDoor
namespace Go.Proofs.YtdhmllobgijggaaGreatDoor
open Go.RowKit

namespace Ref
theorem controlV_lo (b : Int) : -1 ≤ controlV b := by unfold controlV; (repeat' split) <;> omega
theorem controlV_hi (b : Int) : controlV b ≤ 13 := by unfold controlV; (repeat' split) <;> omega
theorem controlV_none (b : Int) (h : ¬ 0 ≤ controlV b) : b ≠ 116 ∧ b ≠ 110 ∧ b ≠ 118 ∧ b ≠ 102 ∧ b ≠ 114 := by
  unfold controlV at h; (repeat' split at h) <;> omega
end Ref

set_option maxHeartbeats 800000 in
theorem number_any (b : Nat) (s : ByteArray) (cls : Bool) (st : St) (w : World) (h : Lex w b s st) (hs : s.size ≤ 400) (hi1 : 1 ≤ st.i) (hi : st.i ≤ s.size) :
    Calls Tryz.prog 99 #[.pointer (some ⟨b, 0, none⟩), .bool cls] w fun x w' =>
      x = .returned (.int .i64 (Ref.numberF s cls st).1) ∧ Lex w' b s (Ref.numberF s cls st).2 ∧ Only (Mine b) w w' := by
  have hL1 := hide h
  have hlo := byteAt_lo s st.i
  have hhi := byteAt_hi s st.i
  have hlo1 := byteAt_lo s (st.i + 1)
  have hhi1 := byteAt_hi s (st.i + 1)
  have hin : 0 ≤ byteAt s st.i → st.i < s.size := (byteAt_nonneg s st.i).1
  have Hin := hide hin
  clear hin
  go_enter Tryz.func99, Tryz.ntmps99
  go_wp2_with fail
  refine (now_lex b s st _ h hs).mono ?_
  rintro e w1 ⟨rfl, nq, rfl⟩
  go_wp2_with fail
  refine (control_any _ _).mono ?_
  rintro e w1 ⟨rfl, rfl⟩
  obtain ⟨c0, c1, c2, c3, f1, f2, f3⟩ := h
  generalize hB : byteAt s st.i = B at *
  by_cases hc : 0 ≤ Ref.controlV B
  · have HF : Hid (Ref.numberF s cls st = (Ref.controlV B, st.go 1)) := by show _ = _; unfold Ref.numberF; rw [hB, if_pos hc]
    clear hB
    go_wp2_with fail
    go_ret
    rw [unhide HF]
    exact ⟨rfl, ((unhide hL1).drewN _).setI _ 1 (by omega), ((Only.refl _ _).drewN _).mine _ _⟩
  · have HB := hide hB
    have hcc := hide hc
    clear hB
    go_wp2_with fail
    refine (syntax_any _ _ hlo hhi).mono ?_
    rintro e w1 ⟨rfl, rfl⟩
    clear hc
    by_cases x1 : B = 48
    · have hb : (B == 48) = true := by simp [x1]
      by_cases hd : 48 ≤ byteAt s (st.i + 1) ∧ byteAt s (st.i + 1) ≤ 57
      · have HF : Hid (Ref.numberF s cls st = (0, (st.go 1).fail 3 (st.i + 1 : Nat))) := by show _ = _; unfold Ref.numberF; rw [unhide HB, if_neg (show ¬ 0 ≤ Ref.controlV B by have := unhide hcc; omega), if_pos x1, if_pos hd]
        clear x1
        obtain ⟨d1, d2⟩ := hd
        go_wp2_with fail
        refine (now_lex b s (st.go 1) _ (((unhide hL1).drewN _).setI _ 1 (by omega)) hs).mono ?_
        rintro e w1 ⟨rfl, nq1, rfl⟩
        simp only [St.go]
        go_wp2_with fail
        refine (now_lex b s (st.go 1) _ ((((unhide hL1).drewN _).setI _ 1 (by omega)).drewN _) hs).mono ?_
        rintro e w1 ⟨rfl, nq2, rfl⟩
        simp only [St.go]
        go_wp2_with fail
        refine (fail_lex b s (st.go 1) 3 _ _ (((((unhide hL1).drewN _).setI _ 1 (by omega)).drewN _))).mono ?_
        rintro e w2 ⟨rfl, hL2, hO2⟩
        go_wp2_with fail
        go_ret
        rw [unhide HF]
        exact ⟨rfl, hL2, ((((Only.refl _ _).drewN _).mine _ _).drewN _).trans hO2⟩
      · have HF : Hid (Ref.numberF s cls st = (0, st.go 1)) := by show _ = _; unfold Ref.numberF; rw [unhide HB, if_neg (show ¬ 0 ≤ Ref.controlV B by have := unhide hcc; omega), if_pos x1, if_neg hd]
        have Hd := hide hd
        clear x1
        by_cases d1 : 48 ≤ byteAt s (st.i + 1)
        · have d2 : 57 < byteAt s (st.i + 1) := by omega
          clear hd
          go_wp2_with fail
          refine (now_lex b s (st.go 1) _ (((unhide hL1).drewN _).setI _ 1 (by omega)) hs).mono ?_
          rintro e w1 ⟨rfl, nq1, rfl⟩
          simp only [St.go]
          go_wp2_with fail
          refine (now_lex b s (st.go 1) _ ((((unhide hL1).drewN _).setI _ 1 (by omega)).drewN _) hs).mono ?_
          rintro e w1 ⟨rfl, nq2, rfl⟩
          simp only [St.go]
          go_wp2_with fail
          go_ret
          rw [unhide HF]
          exact ⟨rfl, (((unhide hL1).drewN _).setI _ 1 (by omega)).drewN _, (((Only.refl _ _).drewN _).mine _ _).drewN _⟩
        · clear hd
          go_wp2_with fail
          refine (now_lex b s (st.go 1) _ (((unhide hL1).drewN _).setI _ 1 (by omega)) hs).mono ?_
          rintro e w1 ⟨rfl, nq1, rfl⟩
          simp only [St.go]
          go_wp2_with fail
          go_ret
          rw [unhide HF]
          exact ⟨rfl, (((unhide hL1).drewN _).setI _ 1 (by omega)).drewN _, (((Only.refl _ _).drewN _).mine _ _).drewN _⟩
    · have hb : (B == 48) = false := by simp [x1]
      by_cases x2 : B = 99
      · have hb2 : (B == 99) = true := by simp [x2]
        by_cases hd : (97 ≤ byteAt s (st.i + 1) ∧ byteAt s (st.i + 1) ≤ 122) ∨ (65 ≤ byteAt s (st.i + 1) ∧ byteAt s (st.i + 1) ≤ 90)
        · have HF : Hid (Ref.numberF s cls st = (byteAt s (st.i + 1) % 32, st.go 2)) := by show _ = _; unfold Ref.numberF; rw [unhide HB, if_neg (show ¬ 0 ≤ Ref.controlV B by have := unhide hcc; omega), if_neg x1, if_pos x2, if_pos hd]
          have Hd := hide hd
          clear x1 x2 hd
          go_wp2_with fail
          refine (now_lex b s (st.go 1) _ (((unhide hL1).drewN _).setI _ 1 (by omega)) hs).mono ?_
          rintro e w1 ⟨rfl, nq1, rfl⟩
          simp only [St.go]
          rcases unhide Hd with ⟨d1, d2⟩ | ⟨d1, d2⟩
          case' inr => have d3 : ¬ 97 ≤ byteAt s (st.i + 1) := by omega
          all_goals
            go_wp2_with fail
            go_ret
            rw [unhide HF]
            refine ⟨ret_int ?_, ((((unhide hL1).drewN _).setI _ 1 (by omega)).drewN _).setI _ 1 (by simp only [St.go]; omega), ((((Only.refl _ _).drewN _).mine _ _).drewN _).mine _ _⟩
            first | rfl | omega
        · have HF : Hid (Ref.numberF s cls st = (0, (st.go 1).fail 3 (st.i + 1 : Nat))) := by show _ = _; unfold Ref.numberF; rw [unhide HB, if_neg (show ¬ 0 ≤ Ref.controlV B by have := unhide hcc; omega), if_neg x1, if_pos x2, if_neg hd]
          have Hd := hide hd
          clear x1 x2 hd
          go_wp2_with fail
          refine (now_lex b s (st.go 1) _ (((unhide hL1).drewN _).setI _ 1 (by omega)) hs).mono ?_
          rintro e w1 ⟨rfl, nq1, rfl⟩
          simp only [St.go]
          go_wp2_with fail
          all_goals first
            | (exfalso; have := unhide Hd; omega)
            | skip
          all_goals
            refine (fail_lex b s (st.go 1) 3 _ _ (((((unhide hL1).drewN _).setI _ 1 (by omega)).drewN _))).mono ?_
            rintro e w2 ⟨rfl, hL2, hO2⟩
            go_wp2_with fail
            go_ret
            rw [unhide HF]
            exact ⟨rfl, hL2, ((((Only.refl _ _).drewN _).mine _ _).drewN _).trans hO2⟩
      · have hb2 : (B == 99) = false := by simp [x2]
        by_cases x3 : B = 120
        · have hb3 : (B == 120) = true := by simp [x3]
          have HF : Hid (Ref.numberF s cls st = Ref.hexF s 2 0 (st.go 1)) := by show _ = _; unfold Ref.numberF; rw [unhide HB, if_neg (show ¬ 0 ≤ Ref.controlV B by have := unhide hcc; omega), if_neg x1, if_neg x2, if_pos x3]
          clear x1 x2 x3
          go_wp2_with fail
          refine (hex_any b s 2 (st.go 1) _ (by omega) (((unhide hL1).drewN _).setI _ 1 (by omega)) hs (by simp only [St.go]; omega)).mono ?_
          rintro e w2 ⟨rfl, hL2, hO2⟩
          go_wp2_with fail
          go_ret
          rw [unhide HF]
          exact ⟨rfl, hL2, (((Only.refl _ _).drewN _).mine _ _).trans hO2⟩
        · have hb3 : (B == 120) = false := by simp [x3]
          by_cases x4 : B = 117
          · have hb4 : (B == 117) = true := by simp [x4]
            have HF : Hid (Ref.numberF s cls st = Ref.unicodeF s st) := by show _ = _; unfold Ref.numberF; rw [unhide HB, if_neg (show ¬ 0 ≤ Ref.controlV B by have := unhide hcc; omega), if_neg x1, if_neg x2, if_neg x3, if_pos x4]
            have hin := unhide Hin (by omega)
            clear x1 x2 x3 x4
            go_wp2_with fail
            refine (unicode_any b s st _ ((unhide hL1).drewN _) hs hi1 hin).mono ?_
            rintro e w2 ⟨rfl, hL2, hO2⟩
            go_wp2_with fail
            go_ret
            rw [unhide HF]
            exact ⟨rfl, hL2, ((Only.refl _ _).drewN _).trans hO2⟩
          · have hb4 : (B == 117) = false := by simp [x4]
            by_cases x5 : Ref.signB B = true ∨ cls = true ∧ B = 45
            · have HF : Hid (Ref.numberF s cls st = (B, st.go 1)) := by show _ = _; unfold Ref.numberF; rw [unhide HB, if_neg (show ¬ 0 ≤ Ref.controlV B by have := unhide hcc; omega), if_neg x1, if_neg x2, if_neg x3, if_neg x4, if_pos x5]
              have X5 := hide x5
              clear x1 x2 x3 x4 x5
              by_cases y1 : Ref.signB B = true
              case' neg =>
                have y2 : cls = true := by rcases unhide X5 with h | h; exact absurd h y1; exact h.1
                have y3 : (B == 45) = true := by rcases unhide X5 with h | h; exact absurd h y1; simp [h.2]
                have y4 : Ref.signB B = false := by simpa using y1
                clear y1
                subst y2
              all_goals
                go_wp2_with fail
                go_ret
                rw [unhide HF]
                exact ⟨rfl, ((unhide hL1).drewN _).setI _ 1 (by omega), ((Only.refl _ _).drewN _).mine _ _⟩
            · have y4 : Ref.signB B = false := by simp at x5; exact x5.1
              by_cases x6 : cls = true ∧ B = 98
              · have HF : Hid (Ref.numberF s cls st = (8, st.go 1)) := by show _ = _; unfold Ref.numberF; rw [unhide HB, if_neg (show ¬ 0 ≤ Ref.controlV B by have := unhide hcc; omega), if_neg x1, if_neg x2, if_neg x3, if_neg x4, if_neg x5, if_pos x6]
                obtain ⟨y2, y3⟩ := x6
                have y5 : (B == 98) = true := by simp [y3]
                have y6 : (B == 45) = false := by simp [y3]
                clear x1 x2 x3 x4 x5 y3
                subst y2
                go_wp2_with fail
                go_ret
                rw [unhide HF]
                exact ⟨rfl, ((unhide hL1).drewN _).setI _ 1 (by omega), ((Only.refl _ _).drewN _).mine _ _⟩
              · have HF : Hid (Ref.numberF s cls st = (0, st.fail 3 st.i)) := by show _ = _; unfold Ref.numberF; rw [unhide HB, if_neg (show ¬ 0 ≤ Ref.controlV B by have := unhide hcc; omega), if_neg x1, if_neg x2, if_neg x3, if_neg x4, if_neg x5, if_neg x6]
                cases cls
                case' true =>
                  have y5 : (B == 98) = false := by simp at x6; simpa using x6
                  have y6 : (B == 45) = false := by simp at x5; simpa using x5.2
                all_goals
                  clear x1 x2 x3 x4 x5 x6
                  go_wp2_with fail
                  refine (fail_lex b s st 3 _ _ ((unhide hL1).drewN _)).mono ?_
                  rintro e w2 ⟨rfl, hL2, hO2⟩
                  go_wp2_with fail
                  go_ret
                  rw [unhide HF]
                  exact ⟨rfl, hL2, ((Only.refl _ _).drewN _).trans hO2⟩

end Go.Proofs.YtdhmllobgijggaaGreatDoor
namespace Go.Proofs.YtdhmllobgijggaaGreatDoor
open Go.RowKit

/-- The cells of some spans. -/
def spanCells : List (Int × Int) → List Value
  | [] => []
  | (a, b) :: r => .int .i64 a :: .int .i64 b :: spanCells r

/-- A slice that is some spans, in memory of its own from 'base' on. -/
def SpansAt (w : World) (base : Nat) (v : Value) (l : List (Int × Int)) : Prop := w.ownsRow base 181 2 v l.length (spanCells l)

/-- A row of cells in a new block. -/
theorem spans_new (w : World) (c : Array Value) (l : List (Int × Int)) (hc : c.toList = spanCells l) (hl : spanCells l = spanCells l → (spanCells l).length = l.length * 2) (hm : l.length ≤ maxLen) :
    SpansAt (w.alloc (.cells c 181)) w.heap.size (.slice (some ⟨w.heap.size, 0, none⟩) l.length l.length) l := by
  have hl' := hl rfl
  refine ⟨hl', .inr ⟨w.heap.size, l.length, c, rfl, Nat.le_refl _, heap_alloc_new w _, Nat.le_refl _, hm, ?_, ?_⟩⟩
  · rw [← hl', ← hc]; simp
  · rw [hc, List.take_of_length_le (by omega)]

theorem spanCells_len : ∀ l : List (Int × Int), (spanCells l).length = l.length * 2
  | [] => rfl
  | (a, b) :: r => by simp only [spanCells, List.length_cons, spanCells_len r]; omega

theorem spans_new' (W : World) (n base : Nat) (hn : W.heap.size = n) (hb : base ≤ n) (c : Array Value) (l : List (Int × Int)) (hc : c.toList = spanCells l) (hm : l.length ≤ maxLen) (k : Nat) (hk : k = l.length) :
    SpansAt (W.alloc (.cells c 181)) base (.slice (some ⟨n, 0, none⟩) k k) l := by
  subst hn; subst hk
  obtain ⟨h1, h2⟩ := spans_new W c l hc (fun _ => spanCells_len l) hm
  refine ⟨h1, ?_⟩
  rcases h2 with h2 | ⟨g, cap, cur, hv, hb', hh, h3⟩
  · exact .inl h2
  · refine .inr ⟨g, cap, cur, hv, ?_, hh, h3⟩
    omega

set_option maxHeartbeats 400000 in
theorem digits_any (w : World) :
    Calls Tryz.prog 96 #[] w fun x w' => x = .returned (.slice (some ⟨w.heap.size, 0, none⟩) 1 1) ∧ SpansAt w' w.heap.size (.slice (some ⟨w.heap.size, 0, none⟩) 1 1) [(48, 57)] ∧ Only (fun _ => False) w w' := by
  go_enter Tryz.func96, Tryz.ntmps96
  go_wp2
  go_ret
  exact ⟨rfl, spans_new w _ [(48, 57)] rfl (fun _ => spanCells_len _) (by decide), (Only.refl _ _).alloc _⟩

set_option maxHeartbeats 400000 in
theorem words_any (w : World) :
    Calls Tryz.prog 97 #[] w fun x w' => x = .returned (.slice (some ⟨w.heap.size, 0, none⟩) 4 4) ∧ SpansAt w' w.heap.size (.slice (some ⟨w.heap.size, 0, none⟩) 4 4) [(48, 57), (65, 90), (95, 95), (97, 122)] ∧ Only (fun _ => False) w w' := by
  go_enter Tryz.func97, Tryz.ntmps97
  go_wp2
  go_ret
  exact ⟨rfl, spans_new w _ [(48, 57), (65, 90), (95, 95), (97, 122)] rfl (fun _ => spanCells_len _) (by decide), (Only.refl _ _).alloc _⟩

set_option maxHeartbeats 400000 in
theorem blanks_any (w : World) :
    Calls Tryz.prog 98 #[] w fun x w' => x = .returned (.slice (some ⟨w.heap.size, 0, none⟩) 10 10) ∧ SpansAt w' w.heap.size (.slice (some ⟨w.heap.size, 0, none⟩) 10 10) [(9, 13), (32, 32), (160, 160), (5760, 5760), (8192, 8202), (8232, 8233), (8239, 8239), (8287, 8287), (12288, 12288), (65279, 65279)] ∧ Only (fun _ => False) w w' := by
  go_enter Tryz.func98, Tryz.ntmps98
  go_wp2
  go_ret
  exact ⟨rfl, spans_new w _ [(9, 13), (32, 32), (160, 160), (5760, 5760), (8192, 8202), (8232, 8233), (8239, 8239), (8287, 8287), (12288, 12288), (65279, 65279)] rfl (fun _ => spanCells_len _) (by decide), (Only.refl _ _).alloc _⟩

theorem ownsRow_keep {P : Nat → Prop} {w w' : World} {base : Nat} {e : TypeId} {size : Nat} {v : Value} {n : Nat} {xs : List Value} (h : w.ownsRow base e size v n xs) (k : Only P w w') (hn : ∀ g, v.ownBlock = some g → ¬ P g) :
    w'.ownsRow base e size v n xs := by
  obtain ⟨h1, h2⟩ := h
  refine ⟨h1, ?_⟩
  rcases h2 with h2 | ⟨g, cap, cur, rfl, hb, hh, h3⟩
  · exact .inl h2
  · refine .inr ⟨g, cap, cur, rfl, hb, ?_, h3⟩
    have hg : g < w.heap.size := (Array.getElem?_eq_some_iff.1 hh).1
    rw [k.block g hg (hn g rfl)]; exact hh

theorem ownsRow_base {w : World} {base base' : Nat} {e : TypeId} {size : Nat} {v : Value} {n : Nat} {xs : List Value} (h : w.ownsRow base e size v n xs) (hb : base' ≤ base) : w.ownsRow base' e size v n xs := by
  obtain ⟨h1, h2⟩ := h
  refine ⟨h1, ?_⟩
  rcases h2 with h2 | ⟨g, cap, cur, rfl, hb', hh, h3⟩
  · exact .inl h2
  · exact .inr ⟨g, cap, cur, rfl, by omega, hh, h3⟩

theorem ownsRow_block {w : World} {base : Nat} {e : TypeId} {size : Nat} {v : Value} {n : Nat} {xs : List Value} (h : w.ownsRow base e size v n xs) (g : Nat) (hg : v.ownBlock = some g) : base ≤ g ∧ g < w.heap.size := h.lt g hg

theorem SpansAt.keep {P : Nat → Prop} {w w' : World} {base : Nat} {v : Value} {l : List (Int × Int)} (h : SpansAt w base v l) (k : Only P w w') (hn : ∀ g, base ≤ g → g < w.heap.size → ¬ P g) : SpansAt w' base v l :=
  ownsRow_keep h k fun g hg => hn g (ownsRow_block h g hg).1 (ownsRow_block h g hg).2
theorem SpansAt.base {w : World} {base base' : Nat} {v : Value} {l : List (Int × Int)} (h : SpansAt w base v l) (hb : base' ≤ base) : SpansAt w base' v l := ownsRow_base h hb

theorem digits_at (w : World) (n : Nat) (hn : w.heap.size = n) : Calls Tryz.prog 96 #[] w fun x w' => x = .returned (.slice (some ⟨n, 0, none⟩) 1 1) ∧ SpansAt w' n (.slice (some ⟨n, 0, none⟩) 1 1) [(48, 57)] ∧ Only (fun _ => False) w w' := by
  subst hn; exact digits_any w
theorem words_at (w : World) (n : Nat) (hn : w.heap.size = n) : Calls Tryz.prog 97 #[] w fun x w' => x = .returned (.slice (some ⟨n, 0, none⟩) 4 4) ∧ SpansAt w' n (.slice (some ⟨n, 0, none⟩) 4 4) [(48, 57), (65, 90), (95, 95), (97, 122)] ∧ Only (fun _ => False) w w' := by
  subst hn; exact words_any w
theorem blanks_at (w : World) (n : Nat) (hn : w.heap.size = n) : Calls Tryz.prog 98 #[] w fun x w' => x = .returned (.slice (some ⟨n, 0, none⟩) 10 10) ∧ SpansAt w' n (.slice (some ⟨n, 0, none⟩) 10 10) [(9, 13), (32, 32), (160, 160), (5760, 5760), (8192, 8202), (8232, 8233), (8239, 8239), (8287, 8287), (12288, 12288), (65279, 65279)] ∧ Only (fun _ => False) w w' := by
  subst hn; exact blanks_any w

/-- Numbers that a part has, or has not. -/
structure Pt where
  neg : Bool
  spans : List (Int × Int)

namespace Ref
def digitL : List (Int × Int) := [(48, 57)]
def wordL : List (Int × Int) := [(48, 57), (65, 90), (95, 95), (97, 122)]
def blankL : List (Int × Int) := [(9, 13), (32, 32), (160, 160), (5760, 5760), (8192, 8202), (8232, 8233), (8239, 8239), (8287, 8287), (12288, 12288), (65279, 65279)]
def backB (b : Int) : Bool := (decide (49 ≤ b) && decide (b ≤ 57)) || (b == 107) || (b == 112) || (b == 80)
def setL (b : Int) : List (Int × Int) := if b = 100 ∨ b = 68 then digitL else if b = 119 ∨ b = 87 then wordL else if b = 115 ∨ b = 83 then blankL else []
def escapeF (s : ByteArray) (cls : Bool) (st : St) : Pt × Bool × St :=
  if backB (byteAt s (st.i + 1)) = true then (⟨false, []⟩, true, (st.go 1).fail 6 st.i)
  else if setL (byteAt s (st.i + 1)) ≠ [] then (⟨decide (byteAt s (st.i + 1) < 97), setL (byteAt s (st.i + 1))⟩, false, st.go 2)
  else (⟨false, [((numberF s cls (st.go 1)).1, (numberF s cls (st.go 1)).1)]⟩, true, (numberF s cls (st.go 1)).2)
end Ref

end Go.Proofs.YtdhmllobgijggaaGreatDoor
namespace Go.Proofs.YtdhmllobgijggaaGreatDoor
open Go.RowKit

theorem Ref.backB_cases {b : Int} (h : Ref.backB b = true) : (49 ≤ b ∧ b ≤ 57) ∨ b = 107 ∨ b = 112 ∨ b = 80 := by
  simp [Ref.backB] at h; omega
theorem Ref.backB_not {b : Int} (h : ¬ Ref.backB b = true) : ¬ (49 ≤ b ∧ b ≤ 57) ∧ b ≠ 107 ∧ b ≠ 112 ∧ b ≠ 80 := by
  simp [Ref.backB] at h; omega

theorem Ref.setL_nil {b : Int} (h : Ref.setL b = []) : (b == 100) = false ∧ (b == 68) = false ∧ (b == 119) = false ∧ (b == 87) = false ∧ (b == 115) = false ∧ (b == 83) = false := by
  unfold Ref.setL at h
  (repeat' split at h) <;> simp_all [Ref.digitL, Ref.wordL, Ref.blankL]

theorem Ref.setL_cases {b : Int} (h : ¬ Ref.setL b = []) : ((b == 100) = true ∧ Ref.setL b = Ref.digitL) ∨ ((b == 100) = false ∧ (b == 68) = true ∧ Ref.setL b = Ref.digitL) ∨
    ((b == 100) = false ∧ (b == 68) = false ∧ (b == 119) = true ∧ Ref.setL b = Ref.wordL) ∨ ((b == 100) = false ∧ (b == 68) = false ∧ (b == 119) = false ∧ (b == 87) = true ∧ Ref.setL b = Ref.wordL) ∨
    ((b == 100) = false ∧ (b == 68) = false ∧ (b == 119) = false ∧ (b == 87) = false ∧ (b == 115) = true ∧ Ref.setL b = Ref.blankL) ∨
    ((b == 100) = false ∧ (b == 68) = false ∧ (b == 119) = false ∧ (b == 87) = false ∧ (b == 115) = false ∧ (b == 83) = true ∧ Ref.setL b = Ref.blankL) := by
  unfold Ref.setL at *
  by_cases h1 : b = 100
  · subst h1; simp
  by_cases h2 : b = 68
  · subst h2; simp
  by_cases h3 : b = 119
  · subst h3; simp
  by_cases h4 : b = 87
  · subst h4; simp
  by_cases h5 : b = 115
  · subst h5; simp
  by_cases h6 : b = 83
  · subst h6; simp
  simp [h1, h2, h3, h4, h5, h6] at h

theorem cell_kept {P : Nat → Prop} {w w' : World} (h : Only P w w') (p : Addr) (v : Value) (hp : w.cell? p = some v) (hn : ¬ P p.block) : w'.cell? p = some v :=
  (h.cell (World.block_lt_of_cell? w p hp) hn).trans hp
theorem frozen_kept {P : Nat → Prop} {w w' : World} (h : Only P w w') (p : Addr) (hl : p.block < w.heap.size) (hp : w.frozen? p = false) (hn : ¬ P p.block) : w'.frozen? p = false :=
  (h.frozen hl hn).trans hp
theorem Lex.keep {P : Nat → Prop} {w w' : World} {b : Nat} {s : ByteArray} {st : St} (h : Lex w b s st) (k : Only P w w') (hn : ¬ P b) : Lex w' b s st := LexAt.keep h k hn
theorem Lex.alloc {w : World} {b : Nat} {s : ByteArray} {st : St} (h : Lex w b s st) (o : Obj) : Lex (w.alloc o) b s st := h.keep ((Only.refl (fun _ => False) w).alloc o) (fun f => f)
theorem Lex.lt {w : World} {b : Nat} {s : ByteArray} {st : St} (h : Lex w b s st) : b < w.heap.size := LexAt.lt h

theorem new_cell (W : World) (n : Nat) (hn : W.heap.size = n) (c : Array Value) (T : TypeId) (off : Nat) (v : Value) (h : c[off]? = some v) : (W.alloc (.cells c T)).cell? ⟨n, off, none⟩ = some v := by
  subst hn; rw [World.cell?_alloc_at _ _ _ _ rfl]; exact h
theorem new_frozen (W : World) (n : Nat) (hn : W.heap.size = n) (c : Array Value) (T : TypeId) (off : Nat) : (W.alloc (.cells c T)).frozen? ⟨n, off, none⟩ = false := by
  subst hn; exact World.frozen?_alloc_at _ _ _ _ rfl

theorem Only.fresh {P : Nat → Prop} {a w : World} (h : Only P a w) (p : Addr) (hp : a.heap.size ≤ p.block) (u : Value) : Only P a (w.setCell p u) := h.setCell (Or.inr hp) u

theorem spans_nil (w : World) (base : Nat) : SpansAt w base (.slice none 0 0) [] := World.ownsRow_nil w base _ _

set_option maxHeartbeats 800000 in
theorem escape_any (b : Nat) (s : ByteArray) (cls : Bool) (st : St) (w : World) (h : Lex w b s st) (hs : s.size ≤ 400) (hi : st.i < s.size) :
    Calls Tryz.prog 81 #[.pointer (some ⟨b, 0, none⟩), .bool cls] w fun x w' =>
      ∃ sv, x = .returned (.tuple #[.agg #[.bool (Ref.escapeF s cls st).1.neg, sv], .bool (Ref.escapeF s cls st).2.1]) ∧ SpansAt w' w.heap.size sv (Ref.escapeF s cls st).1.spans ∧
        Lex w' b s (Ref.escapeF s cls st).2.2 ∧ Only (Mine b) w w' := by
  have hL1 := hide h
  have hlt := h.lt
  have hlo := byteAt_lo s (st.i + 1)
  have hhi := byteAt_hi s (st.i + 1)
  have hne : ∀ w a n c n' c', (binOp .neq 182 (.slice a n c) (.slice none n' c')).run Tryz.prog w = .ok (.bool (!a.isNone)) w := fun w a n c n' c' => run_neq_slice_nil_any (P := Tryz.prog) w 182 181 a n c n' c' Tryz.underlying182
  obtain ⟨c0, c1, c2, c3, f1, f2, f3⟩ := h
  go_enter Tryz.func81, Tryz.ntmps81
  go_wp2_with fail
  have hL2 := hide (((unhide hL1).setI ((st.i : Int) + 1) 1 (by omega)).alloc (.cells #[.bool false, .slice none 0 0] 184))
  refine (now_lex b s (st.go 1) _ (unhide hL2) hs).mono ?_
  rintro e w1 ⟨rfl, nq, rfl⟩
  simp only [St.go]
  generalize hB : byteAt s (st.i + 1) = B at *
  by_cases hbk : Ref.backB B = true
  · have HF : Hid (Ref.escapeF s cls st = (⟨false, []⟩, true, (st.go 1).fail 6 st.i)) := by show _ = _; unfold Ref.escapeF; rw [hB, if_pos hbk]
    have hcs := Ref.backB_cases hbk
    clear hB hbk
    have hcs' : (49 ≤ B ∧ B ≤ 57) ∨ (¬ 49 ≤ B ∨ 57 < B) ∧ ((B == 107) = true ∨ (B == 107) = false ∧ ((B == 112) = true ∨ (B == 112) = false ∧ (B == 80) = true)) := by simp; omega
    clear hcs
    rcases hcs' with ⟨q1, q2⟩ | ⟨q1 | q1, q2 | ⟨q2, q3 | ⟨q3, q4⟩⟩⟩
    all_goals
      go_wp2_with fail
      refine (fail_lex b s (st.go 1) 6 _ _ ((unhide hL2).drewN _)).mono ?_
      rintro e w2 ⟨rfl, hL3, hO3⟩
      have r0 : w2.cell? ⟨w.heap.size, 0, none⟩ = some (.bool false) := cell_kept (hO3) _ _ (new_cell _ _ (by simp) _ _ 0 _ rfl) (by unfold Mine; simp; omega)
      have r1 : w2.cell? ⟨w.heap.size, 1, none⟩ = some (.slice none 0 0) := cell_kept hO3 _ _ (new_cell _ _ (by simp) _ _ 1 _ rfl) (by unfold Mine; simp; omega)
      have r2 : w2.frozen? ⟨w.heap.size, 0, none⟩ = false := frozen_kept hO3 _ (by simp) (new_frozen _ _ (by simp) _ _ 0) (by unfold Mine; simp; omega)
      have r3 : w2.frozen? ⟨w.heap.size, 1, none⟩ = false := frozen_kept hO3 _ (by simp) (new_frozen _ _ (by simp) _ _ 1) (by unfold Mine; simp; omega)
      go_wp2_with fail
      refine bodyPost_ret (v := .tuple #[.agg #[.bool false, .slice none 0 0], .bool true]) (by simp [results, Tryz.results81, go_sem, r0, r1]) rfl ?_
      rw [unhide HF]
      exact ⟨_, rfl, spans_nil _ _, hL3.keep (((Only.refl (Mine w.heap.size) _).mine _ _).mine _ _) (by unfold Mine; omega),
        (((((((Only.refl _ _).mine _ _).alloc _).drewN _).trans hO3).fresh ⟨w.heap.size, 0, none⟩ (Nat.le_refl _) _).fresh ⟨w.heap.size, 1, none⟩ (Nat.le_refl _) _)⟩
  · have hcs := Ref.backB_not hbk
    have hcs' : (¬ 49 ≤ B ∨ 57 < B) ∧ (B == 107) = false ∧ (B == 112) = false ∧ (B == 80) = false := by simp; omega
    obtain ⟨q1, q2, q3, q4⟩ := hcs'
    by_cases hset : Ref.setL B = []
    · have HF : Hid (Ref.escapeF s cls st = (⟨false, [((Ref.numberF s cls (st.go 1)).1, (Ref.numberF s cls (st.go 1)).1)]⟩, true, (Ref.numberF s cls (st.go 1)).2)) := by
        show _ = _; unfold Ref.escapeF; rw [hB, if_neg hbk, if_neg (by simp [hset])]
      have hs6 := Ref.setL_nil hset
      obtain ⟨x1, x2, x3, x4, x5, x6⟩ := hs6
      clear hB hbk hset hcs
      rcases q1 with q1 | q1
      all_goals
        go_wp2_with fail
        refine (number_any b s cls (st.go 1) _ ((unhide hL2).drewN _) hs (by simp only [St.go]; omega) (by simp only [St.go]; omega)).mono ?_
        rintro e w2 ⟨rfl, hL3, hO3⟩
        have r0 : w2.cell? ⟨w.heap.size, 0, none⟩ = some (.bool false) := cell_kept (hO3) _ _ (new_cell _ _ (by simp) _ _ 0 _ rfl) (by unfold Mine; simp; omega)
        have r1 : w2.cell? ⟨w.heap.size, 1, none⟩ = some (.slice none 0 0) := cell_kept hO3 _ _ (new_cell _ _ (by simp) _ _ 1 _ rfl) (by unfold Mine; simp; omega)
        have r2 : w2.frozen? ⟨w.heap.size, 0, none⟩ = false := frozen_kept hO3 _ (by simp) (new_frozen _ _ (by simp) _ _ 0) (by unfold Mine; simp; omega)
        have r3 : w2.frozen? ⟨w.heap.size, 1, none⟩ = false := frozen_kept hO3 _ (by simp) (new_frozen _ _ (by simp) _ _ 1) (by unfold Mine; simp; omega)
        have hsz : w.heap.size < w2.heap.size := World.block_lt_of_cell? w2 ⟨w.heap.size, 0, none⟩ r0
        go_wp2_with fail
        refine bodyPost_ret (v := .tuple #[.agg #[.bool false, .slice (some ⟨w2.heap.size, 0, none⟩) 1 1], .bool true]) (by simp [results, Tryz.results81, go_sem, r0, r1, hsz]) rfl ?_
        rw [unhide HF]
        generalize (Ref.numberF s cls (st.go 1)).1 = N at *
        refine ⟨_, rfl, ?_, ?_, ?_⟩
        · exact spans_new' _ _ _ (by simp) (by omega) _ [(N, N)] rfl (by simp [maxLen]) 1 rfl
        · exact (hL3.keep (((Only.refl (Mine w.heap.size) _).mine _ _).mine _ _) (by unfold Mine; omega)).alloc _
        · exact (((((((Only.refl _ _).mine _ _).alloc _).drewN _).trans hO3).fresh ⟨w.heap.size, 0, none⟩ (Nat.le_refl _) _).fresh ⟨w.heap.size, 1, none⟩ (Nat.le_refl _) _).alloc _
    · have HF : Hid (Ref.escapeF s cls st = (⟨decide (B < 97), Ref.setL B⟩, false, st.go 2)) := by
        show _ = _; unfold Ref.escapeF; rw [hB, if_neg hbk, if_pos hset]
      have hs6 := Ref.setL_cases hset
      clear hB hbk hset hcs
      rcases q1 with q1 | q1
      case' inl => have q1' : ¬ 49 ≤ B := q1
      all_goals
        rcases hs6 with ⟨x1, hq⟩ | ⟨x1, x2, hq⟩ | ⟨x1, x2, x3, hq⟩ | ⟨x1, x2, x3, x4, hq⟩ | ⟨x1, x2, x3, x4, x5, hq⟩ | ⟨x1, x2, x3, x4, x5, x6, hq⟩
      all_goals
        have Hq := hide hq
        clear hq
        go_wp2_with fail
        first
          | (refine (digits_at _ (w.heap.size + 1) (by simp)).mono ?_; rintro e w2 ⟨rfl, hsp, hO3⟩)
          | (refine (words_at _ (w.heap.size + 1) (by simp)).mono ?_; rintro e w2 ⟨rfl, hsp, hO3⟩)
          | (refine (blanks_at _ (w.heap.size + 1) (by simp)).mono ?_; rintro e w2 ⟨rfl, hsp, hO3⟩)
      all_goals
        have hL3 := ((unhide hL2).drewN nq).keep hO3 (fun f => f)
        have hL4 := hide hL3
        obtain ⟨d0, d1, d2, d3, g1, g2, g3⟩ := hL3
        have r0 : w2.cell? ⟨w.heap.size, 0, none⟩ = some (.bool false) := cell_kept (hO3) _ _ (new_cell _ _ (by simp) _ _ 0 _ rfl) (fun f => f)
        have r1 : w2.cell? ⟨w.heap.size, 1, none⟩ = some (.slice none 0 0) := cell_kept hO3 _ _ (new_cell _ _ (by simp) _ _ 1 _ rfl) (fun f => f)
        have r2 : w2.frozen? ⟨w.heap.size, 0, none⟩ = false := frozen_kept hO3 _ (by simp) (new_frozen _ _ (by simp) _ _ 0) (fun f => f)
        have r3 : w2.frozen? ⟨w.heap.size, 1, none⟩ = false := frozen_kept hO3 _ (by simp) (new_frozen _ _ (by simp) _ _ 1) (fun f => f)
        have hgi : (st.go 1).i ≤ 1000 := by simp only [St.go]; omega
        have Hsp := hide hsp
        have HO3 := hide hO3
        clear hsp hO3
        go_wp2_with fail
      all_goals
        refine bodyPost_ret (v := .tuple #[.agg #[.bool (decide (B < 97)), _], .bool false]) (by simp [results, Tryz.results81, go_sem, r0, r1]; rfl) rfl ?_
        rw [unhide HF]
        refine ⟨_, rfl, ?_, ?_, ?_⟩
        · rw [unhide Hq]
          exact ((unhide Hsp).keep ((((Only.refl (fun k => k = b ∨ k = w.heap.size) _).setCell (Or.inl (Or.inl rfl)) _).setCell (Or.inl (Or.inr rfl)) _).setCell (Or.inl (Or.inr rfl)) _) (by intro g hg _ hh; omega)).base (by omega)
        · exact ((unhide hL4).setI _ 1 (by simp only [St.go]; omega)).keep (((Only.refl (Mine w.heap.size) _).mine _ _).mine _ _) (by unfold Mine; omega)
        · exact ((((((((Only.refl _ _).mine _ _).alloc _).drewN _).trans ((unhide HO3).mono (fun _ _ f => f.elim))).mine _ _).fresh ⟨w.heap.size, 0, none⟩ (Nat.le_refl _) _).fresh ⟨w.heap.size, 1, none⟩ (Nat.le_refl _) _)

end Go.Proofs.YtdhmllobgijggaaGreatDoor
namespace Go.Proofs.YtdhmllobgijggaaGreatDoor
open Go.RowKit

namespace Ref
def contF (s : ByteArray) (p : Nat) : Nat → Nat → Int → Option Int
  | 0, _, c => some c
  | k + 1, i, c => if byteAt s (p + i) < 128 ∨ 191 < byteAt s (p + i) then none else contF s p k (i + 1) (c * 64 + byteAt s (p + i) - 128)
def headK (b : Int) : Nat := (headN b).toNat
theorem headK_cast (b : Int) : headN b = (headK b : Int) := by unfold headK headN; (repeat' split) <;> rfl
theorem headK_le (b : Int) : headK b ≤ 4 := by unfold headK headN; (repeat' split) <;> decide
theorem headC_bd (b : Int) (h0 : 0 ≤ b) : 0 ≤ headC b ∧ headC b < 128 := by unfold headC; (repeat' split) <;> omega
def badC (n : Nat) (c : Int) : Bool := decide (c < leastV n) || decide (1114111 < c) || (decide (55296 ≤ c) && decide (c ≤ 57343))
def oneF (s : ByteArray) (p : Nat) : Option (Nat × Int) :=
  if headK (byteAt s p) = 0 ∨ s.size < p + headK (byteAt s p) then none
  else match contF s p (headK (byteAt s p) - 1) 1 (headC (byteAt s p)) with
    | none => none
    | some c => if badC (headK (byteAt s p)) c = true then none else some (headK (byteAt s p), c)
def charsF (s : ByteArray) : Nat → Nat → List (Int × Int) → List (Int × Int) × Int
  | 0, _, acc => (acc, -1)
  | f + 1, p, acc => if p < s.size then (match oneF s p with
      | none => (acc, (p : Int))
      | some (n, c) => charsF s f (p + n) (acc ++ [(c, (p : Int))])) else (acc, -1)
def charsR (s : ByteArray) : List (Int × Int) × Int := charsF s (s.size + 1) 0 []
theorem contF_bad {s : ByteArray} {p k i : Nat} {c : Int} (h : byteAt s (p + i) < 128 ∨ 191 < byteAt s (p + i)) : contF s p (k + 1) i c = none := by simp only [contF]; rw [if_pos h]
theorem contF_good {s : ByteArray} {p k i : Nat} {c : Int} (h : ¬ (byteAt s (p + i) < 128 ∨ 191 < byteAt s (p + i))) : contF s p (k + 1) i c = contF s p k (i + 1) (c * 64 + byteAt s (p + i) - 128) := by simp only [contF]; rw [if_neg h]
theorem charsF_end {s : ByteArray} {f p : Nat} {acc : List (Int × Int)} (h : ¬ p < s.size) : charsF s (f + 1) p acc = (acc, -1) := by simp only [charsF]; rw [if_neg h]
theorem charsF_bad {s : ByteArray} {f p : Nat} {acc : List (Int × Int)} (h : p < s.size) (h1 : oneF s p = none) : charsF s (f + 1) p acc = (acc, (p : Int)) := by simp only [charsF]; rw [if_pos h, h1]
theorem charsF_good {s : ByteArray} {f p n : Nat} {c : Int} {acc : List (Int × Int)} (h : p < s.size) (h1 : oneF s p = some (n, c)) : charsF s (f + 1) p acc = charsF s f (p + n) (acc ++ [(c, (p : Int))]) := by simp only [charsF]; rw [if_pos h, h1]
theorem oneF_none1 {s : ByteArray} {p : Nat} (h : headK (byteAt s p) = 0 ∨ s.size < p + headK (byteAt s p)) : oneF s p = none := by unfold oneF; rw [if_pos h]
theorem oneF_none2 {s : ByteArray} {p : Nat} (h : ¬ (headK (byteAt s p) = 0 ∨ s.size < p + headK (byteAt s p))) (h1 : contF s p (headK (byteAt s p) - 1) 1 (headC (byteAt s p)) = none) : oneF s p = none := by unfold oneF; rw [if_neg h, h1]
theorem oneF_none3 {s : ByteArray} {p : Nat} {c : Int} (h : ¬ (headK (byteAt s p) = 0 ∨ s.size < p + headK (byteAt s p))) (h1 : contF s p (headK (byteAt s p) - 1) 1 (headC (byteAt s p)) = some c) (h2 : badC (headK (byteAt s p)) c = true) : oneF s p = none := by
  unfold oneF; rw [if_neg h, h1]; simp [h2]
theorem oneF_some {s : ByteArray} {p : Nat} {c : Int} (h : ¬ (headK (byteAt s p) = 0 ∨ s.size < p + headK (byteAt s p))) (h1 : contF s p (headK (byteAt s p) - 1) 1 (headC (byteAt s p)) = some c) (h2 : badC (headK (byteAt s p)) c = false) : oneF s p = some (headK (byteAt s p), c) := by
  unfold oneF; rw [if_neg h, h1]; simp [h2]
end Ref

theorem Tryz.infoChar : (Tryz.prog.info? 145).map (fun i => (i.zero, i.size, i.bytes)) = some (some (.agg #[.int .i64 0, .int .i64 0]), 2, 16) := by kernel_rfl

/-- A slice that is some characters with their places. -/
def CharsAt (w : World) (base : Nat) (v : Value) (l : List (Int × Int)) : Prop := w.ownsRow base 145 2 v l.length (spanCells l)

theorem spanCells_append (l m : List (Int × Int)) : spanCells (l ++ m) = spanCells l ++ spanCells m := by
  induction l with
  | nil => rfl
  | cons x r ih => obtain ⟨a, b⟩ := x; simp only [List.cons_append, spanCells, ih]

/-- A bound for what has been read of a character behind k bytes. -/
def capC : Nat → Int
  | 0 => 128
  | 1 => 8192
  | 2 => 524288
  | 3 => 33554432
  | _ => 2147483648
theorem capC_le (k : Nat) : capC k ≤ 2147483648 := by unfold capC; split <;> omega
theorem capC_step (k : Nat) (h : k ≤ 3) (d b : Int) (h0 : d < capC k) (h1 : b ≤ 191) : d * 64 + b - 128 < capC (k + 1) := by
  have h5 : k = 0 ∨ k = 1 ∨ k = 2 ∨ k = 3 := by omega
  rcases h5 with rfl | rfl | rfl | rfl <;> simp only [capC] at * <;> omega

set_option maxHeartbeats 1000000 in
set_option maxRecDepth 100000 in
theorem chars_any (s : ByteArray) (w : World) (hs : s.size ≤ 400) :
    Calls Tryz.prog 33 #[.string s] w fun x w' =>
      ∃ v, x = .returned (.tuple #[v, .int .i64 (Ref.charsR s).2]) ∧ CharsAt w' w.heap.size v (Ref.charsR s).1 ∧ Only (fun _ => False) w w' := by
  obtain ⟨i0, hi, hz0, hz1, hz2⟩ := info_parts Tryz.infoChar
  go_enter Tryz.func33, Tryz.ntmps33
  go_wp2_with fail
  go_loopw [4, 5] (fun v p wr => ∃ (q f : Nat) (acc : List (Int × Int)), p = .int .i64 q ∧ q ≤ s.size ∧ acc.length ≤ q ∧ CharsAt wr w.heap.size v acc ∧ Only (fun _ => False) w wr ∧ Hid (s.size < q + f) ∧ Hid (Ref.charsR s = Ref.charsF s f q acc))
    (fun _ p _ => s.size - (intOf p).toNat)
  case atStart => exact ⟨0, s.size + 1, [], rfl, by omega, by simp, World.ownsRow_nil _ _ _ _, Only.refl _ _, (by show _ < _; omega), rfl⟩
  case round =>
    obtain ⟨q, f, acc, rfl, hq, hacc, hown, hO, hf, HF⟩ := hrel
    obtain ⟨f, rfl⟩ : ∃ f', f = f' + 1 := ⟨f - 1, by have := unhide hf; omega⟩
    by_cases hlt : q < s.size
    · go_wp2_with fail
      rw [byte_wrap, ← byteAt_in s q hlt]
      have hB0 := (byteAt_nonneg s q).2 hlt
      have hB1 := byteAt_hi s q
      refine (head_any _ _ hB0 hB1).mono ?_
      rintro e w1 ⟨rfl, hw1⟩
      have hw2 := hw1.symm
      subst hw2
      clear hw1
      rw [Ref.headK_cast]
      have hc := Ref.headC_bd (byteAt s q) hB0
      have hK := Ref.headK_le (byteAt s q)
      generalize hN : Ref.headK (byteAt s q) = N at *
      generalize hC : Ref.headC (byteAt s q) = C at *
      have HN := hide hN
      have HC := hide hC
      clear hN hC hB0 hB1
      by_cases h1 : N = 0 ∨ s.size < q + N
      · have HG : Hid (Ref.charsR s = (acc, (q : Int))) := by
          rw [unhide HF]; exact Ref.charsF_bad hlt (Ref.oneF_none1 (by rw [unhide HN]; exact h1))
        by_cases h0 : N = 0
        · subst h0
          clear h1
          go_wp2_with fail
          go_ret2
          rw [unhide HG]
          exact ⟨_, rfl, hown, hO⟩
        · have h2 : s.size < q + N := by omega
          have h3 : ((N : Int) == 0) = false := by simp; omega
          clear h1
          go_wp2_with fail
          go_ret2
          rw [unhide HG]
          exact ⟨_, rfl, hown, hO⟩
      · have h0 : ((N : Int) == 0) = false := by simp; omega
        have h2 : q + N ≤ s.size := by omega
        have h3 : 1 ≤ N := by omega
        have H1 : Hid (¬ (Ref.headK (byteAt s q) = 0 ∨ s.size < q + Ref.headK (byteAt s q))) := by rw [unhide HN]; exact h1
        clear h1
        have hdd : decide ((s.size : Int) < (q : Int) + N) = false := by simp; omega
        have Hown := hide hown
        have HO := hide hO
        have HI := hide (And.intro hi (And.intro hz0 (And.intro hz1 hz2)))
        clear hown hO hi hz0 hz1 hz2
        go_wp2_with fail
        go_loop [7, 8] (fun c i => ∃ (k : Nat) (d : Int), i = .int .i64 k ∧ c = .int .i64 d ∧ 1 ≤ k ∧ k ≤ N ∧ 0 ≤ d ∧ d ≤ 2147483648 ∧ Hid (d < capC k) ∧ Hid (Ref.contF s q (N - 1) 1 C = Ref.contF s q (N - k) k d))
          (fun _ i => N - (intOf i).toNat)
        case atStart => exact ⟨1, C, rfl, rfl, by omega, by omega, by omega, by omega, (by show C < 8192; omega), rfl⟩
        case round =>
          obtain ⟨k, d, rfl, rfl, hk1, hk2, hd0, hd1, hd2, HD⟩ := hrel
          have hb0 := byteAt_lo s (q + k)
          have hb1 := byteAt_hi s (q + k)
          by_cases hkn : k < N
          · have hw : wrap64 ((s[q + k]'(by omega)).toNat : Int) = byteAt s (q + k) := by rw [byte_wrap, byteAt_in]
            by_cases hbad : byteAt s (q + k) < 128 ∨ 191 < byteAt s (q + k)
            · have HG : Hid (Ref.charsR s = (acc, (q : Int))) := by
                rw [unhide HF]; exact Ref.charsF_bad hlt (Ref.oneF_none2 (unhide H1) (by rw [unhide HN, unhide HC, unhide HD, show N - k = (N - k - 1) + 1 by omega]; exact Ref.contF_bad hbad))
              by_cases hb2 : byteAt s (q + k) < 128
              · clear hbad
                go_wp2_with fail
                go_ret2
                rw [unhide HG]
                exact ⟨_, rfl, unhide Hown, unhide HO⟩
              · have hb3 : 191 < byteAt s (q + k) := by omega
                clear hbad
                go_wp2_with fail
                go_ret2
                rw [unhide HG]
                exact ⟨_, rfl, unhide Hown, unhide HO⟩
            · have HD1 : Hid (Ref.contF s q (N - 1) 1 C = Ref.contF s q (N - (k + 1)) (k + 1) (d * 64 + byteAt s (q + k) - 128)) := by
                rw [unhide HD, show N - k = (N - (k + 1)) + 1 by omega]; exact Ref.contF_good hbad
              have hb2 : 128 ≤ byteAt s (q + k) := by omega
              have hb3 : byteAt s (q + k) ≤ 191 := by omega
              have Hpn := hide (capC_step k (by omega) d _ (unhide hd2) hb3)
              have hcl := capC_le (k + 1)
              have hpl : d * 64 + byteAt s (q + k) - 128 ≤ 2147483648 := by have := unhide Hpn; omega
              clear hbad hcl
              go_wp2_with fail
              go_round
              case rel => exact ⟨k + 1, _, by go_num, rfl, by omega, by omega, by omega, by omega, Hpn, HD1⟩
              case measure => simp [intOf]; omega
          · have Hd : Hid (Ref.contF s q (N - 1) 1 C = some d) := by rw [unhide HD, show N - k = 0 by omega]; rfl
            clear hb0 hb1 HD hd2
            go_wp2_with fail
            refine (least_any _ _).mono ?_
            rintro e w1 ⟨rfl, hw1⟩
            have hw2 := hw1.symm
            subst hw2
            clear hw1
            by_cases hbc : Ref.badC N d = true
            · have HG : Hid (Ref.charsR s = (acc, (q : Int))) := by
                rw [unhide HF]; exact Ref.charsF_bad hlt (Ref.oneF_none3 (unhide H1) (by rw [unhide HN, unhide HC]; exact unhide Hd) (by rw [unhide HN]; exact hbc))
              simp only [Ref.badC, Bool.or_eq_true, Bool.and_eq_true, decide_eq_true_eq] at hbc
              have hcs : d < Ref.leastV N ∨ ¬ d < Ref.leastV N ∧ (1114111 < d ∨ ¬ 1114111 < d ∧ 55296 ≤ d ∧ d ≤ 57343) := by omega
              clear hbc
              rcases hcs with y1 | ⟨y1, y2 | ⟨y2, y3, y4⟩⟩
              all_goals
                go_wp2_with fail
                go_ret2
                rw [unhide HG]
                exact ⟨_, rfl, unhide Hown, unhide HO⟩
            · have hbc' : Ref.badC N d = false := by simpa using hbc
              have HG : Hid (Ref.charsR s = Ref.charsF s f (q + N) (acc ++ [(d, (q : Int))])) := by
                rw [unhide HF]
                have := Ref.charsF_good (f := f) (acc := acc) hlt (Ref.oneF_some (unhide H1) (by rw [unhide HN, unhide HC]; exact unhide Hd) (by rw [unhide HN]; exact hbc'))
                rw [unhide HN] at this; exact this
              simp only [Ref.badC, Bool.or_eq_false_iff, Bool.and_eq_false_iff, decide_eq_false_iff_not] at hbc'
              obtain ⟨⟨y1, y2⟩, y3⟩ := hbc'
              clear hbc
              obtain ⟨hi, hz0, hz1, hz2⟩ := unhide HI
              have hown : wr.ownsRow w.heap.size 145 2 _ acc.length (spanCells acc) := unhide Hown
              have y4 : ¬ 55296 ≤ d ∨ 55296 ≤ d ∧ 57343 < d := by omega
              clear y3
              rcases y4 with y4 | ⟨y4, y5⟩
              all_goals
                go_wp2_with (at_builtin; refine wpList_append_own _ rfl _ _ 93 rfl w.heap.size 145 i0 (.agg #[.int .i64 0, .int .i64 0]) 2 16 Tryz.underlying93 hi hz0 hz1 hz2 rfl (by decide) _ _ _ rfl (World.ownsRow.alloc hown _) ⟨wr.heap.size, 0, none⟩ 1 1 [.int .i64 d, .int .i64 (q : Int)] rfl rfl (cell_two_new _ _ _ _) (fun x hx => by simp at hx; rcases hx with rfl | rfl <;> rfl) (by unfold maxLen; omega) (by omega) (by have := (unhide HO).size; simp; omega) ?_; intro v' w3 hown' hgrow3 hnil3)
                go_roundw
                case rel =>
                  exact ⟨q + N, f, acc ++ [(d, (q : Int))], by go_num, h2, by simp; omega, (by
                    show World.ownsRow _ _ _ _ _ _ _
                    rw [spanCells_append, List.length_append]; exact hown'), ((unhide HO).alloc _).grown hgrow3 (fun j hj => Or.inr (hown.lt j hj).1), (by have := unhide hf; show _ < _; omega), HG⟩
                case measure => simp [intOf]; omega
    · have HG : Hid (Ref.charsR s = (acc, -1)) := by
        rw [unhide HF]; exact Ref.charsF_end hlt
      go_wp2_with fail
      go_ret2
      rw [unhide HG]
      exact ⟨_, rfl, hown, hO⟩

end Go.Proofs.YtdhmllobgijggaaGreatDoor
