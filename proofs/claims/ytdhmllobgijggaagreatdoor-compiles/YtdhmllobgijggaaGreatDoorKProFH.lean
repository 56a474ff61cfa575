/- The program's reader as plain functions over its letters. The program's numbers behind a backslash: a letter's, and those of digits of sixteen. The program's numbers between braces, and its pairs of halves. -/
import Derived.Test.YtdhmllobgijggaaGreatDoorKProAE
namespace Go.Proofs.YtdhmllobgijggaaGreatDoor
open Go.RowKit

namespace Pro
/-- What a reader's method tells: a fault's kind (0: none) and its place, a number, and where the reader then stands. -/
structure Out where
  k : Nat
  p : Int
  v : Int
  n : Nat
def bad (k : Nat) (p : Int) (n : Nat) : Out := ⟨k, p, 0, n⟩
def good (v : Int) (n : Nat) : Out := ⟨0, 0, v, n⟩
/-- The letters' numbers are those of characters. -/
def Fit (L : List (Int × Int)) : Prop := ∀ k, -1 ≤ letAt L k ∧ letAt L k ≤ 1114111
def dig (c : Int) : Bool := decide (48 ≤ c) && decide (c ≤ 57)
def zeroO (L : List (Int × Int)) (len : Int) (n : Nat) : Out := if dig (letAt L n) = true then bad 3 (placeAt L len n) n else good 0 n
abbrev letter (c : Int) : Prop := (97 ≤ c ∧ c ≤ 122) ∨ (65 ≤ c ∧ c ≤ 90)
def controlO (L : List (Int × Int)) (len : Int) (n : Nat) : Out := if letter (letAt L n) then good (letAt L n % 32) (n + 1) else bad 3 (placeAt L len n) n
def hexO (L : List (Int × Int)) (len : Int) : Nat → Int → Nat → Out
  | 0, c, n => good c n
  | f + 1, c, n => if hexV (letAt L n) < 0 then bad 3 (placeAt L len n) n else hexO L len f (16 * c + hexV (letAt L n)) (n + 1)
def bracedO (L : List (Int × Int)) (len : Int) : Nat → Int → Nat → Nat → Out
  | 0, c, _, n => good c n
  | f + 1, c, d, n =>
    if 0 < d ∧ letAt L n = 125 then good c (n + 1)
    else if hexV (letAt L n) < 0 ∨ 1114111 < 16 * c + hexV (letAt L n) then bad 3 (placeAt L len n) n
    else bracedO L len f (16 * c + hexV (letAt L n)) (d + 1) (n + 1)
def bracedP (L : List (Int × Int)) (len : Int) (n : Nat) : Out := bracedO L len (L.length + 1 - n) 0 0 n
/-- The second half of a pair that stands next, or -1. -/
def lowV (L : List (Int × Int)) (len : Int) (n : Nat) : Int := if letAt L n = 92 ∧ letAt L (n + 1) = 117 ∧ (hexO L len 4 0 (n + 2)).k = 0 ∧ 56320 ≤ (hexO L len 4 0 (n + 2)).v ∧ (hexO L len 4 0 (n + 2)).v ≤ 57343 then (hexO L len 4 0 (n + 2)).v else -1
def unicodeO (L : List (Int × Int)) (len : Int) (n : Nat) : Out :=
  if (hexO L len 4 0 n).k ≠ 0 ∨ (hexO L len 4 0 n).v < 55296 ∨ 56319 < (hexO L len 4 0 n).v then hexO L len 4 0 n
  else if 0 ≤ lowV L len (hexO L len 4 0 n).n then good (65536 + ((hexO L len 4 0 n).v - 55296) * 1024 + (lowV L len (hexO L len 4 0 n).n - 56320)) ((hexO L len 4 0 n).n + 6)
  else hexO L len 4 0 n
def ctlV (b : Int) : Int := if b = 116 then 9 else if b = 110 then 10 else if b = 118 then 11 else if b = 102 then 12 else if b = 114 then 13 else -1
def sign (b : Int) : Bool := [94, 36, 92, 46, 42, 43, 63, 40, 41, 91, 93, 123, 125, 124, 47].any fun c => decide (c = b)
def shortB (b : Int) : Bool := decide (0 ≤ ctlV b) || sign b
def shortV (b : Int) : Int := if 0 ≤ ctlV b then ctlV b else b
def numO (L : List (Int × Int)) (len : Int) (n : Nat) : Out :=
  if shortB (letAt L n) = true then good (shortV (letAt L n)) (n + 1)
  else if letAt L n = 48 then zeroO L len (n + 1)
  else if letAt L n = 99 then controlO L len (n + 1)
  else if letAt L n = 120 then hexO L len 2 0 (n + 1)
  else if letAt L n = 117 ∧ letAt L (n + 1) = 123 then bracedP L len (n + 2)
  else if letAt L n = 117 then unicodeO L len (n + 1)
  else bad 3 (placeAt L len n) n
def setB (b : Int) : Bool := [100, 68, 119, 87, 115, 83].any fun c => decide (c = b)
def backB (b : Int) : Bool := [49, 50, 51, 52, 53, 54, 55, 56, 57, 107, 112, 80].any fun c => decide (c = b)
def escO (L : List (Int × Int)) (len : Int) (n : Nat) : Out :=
  if setB (letAt L (n + 1)) = true then good (letAt L (n + 1)) (n + 2)
  else if backB (letAt L (n + 1)) = true then bad 6 (placeAt L len n) (n + 1)
  else numO L len (n + 1)
def memberO (L : List (Int × Int)) (len : Int) (n : Nat) : Out :=
  if letAt L n = 92 ∧ letAt L (n + 1) = 98 then good 8 (n + 2)
  else if letAt L n = 92 ∧ letAt L (n + 1) = 45 then good 45 (n + 2)
  else if letAt L n = 92 then escO L len n
  else good (letAt L n) (n + 1)
/-- Is the member that stands next one of many characters? -/
def many (L : List (Int × Int)) (n : Nat) : Bool := decide (letAt L n = 92) && setB (letAt L (n + 1))
def dashB (L : List (Int × Int)) (n : Nat) : Bool := decide (letAt L n = 45) && decide (letAt L (n + 1) ≠ 93) && decide (letAt L (n + 1) ≠ -1)
def rangeO (L : List (Int × Int)) (len : Int) (m : Bool) (first : Int) (n : Nat) : Out :=
  if (memberO L len (n + 1)).k ≠ 0 then memberO L len (n + 1)
  else if m = true ∨ many L (n + 1) = true ∨ (memberO L len (n + 1)).v < first then bad 4 (placeAt L len n) (memberO L len (n + 1)).n
  else memberO L len (n + 1)
def addO (L : List (Int × Int)) (len : Int) (n : Nat) : Out :=
  if (memberO L len n).k ≠ 0 then memberO L len n
  else if dashB L (memberO L len n).n = true then rangeO L len (many L n) (memberO L len n).v (memberO L len n).n
  else memberO L len n
def classO (L : List (Int × Int)) (len : Int) : Nat → Nat → Out
  | 0, n => good 1 n
  | f + 1, n =>
    if letAt L n = 93 then good 1 (n + 1)
    else if L.length ≤ n then bad 3 len n
    else if (addO L len n).k ≠ 0 then addO L len n
    else classO L len f (addO L len n).n
def classP (L : List (Int × Int)) (len : Int) (n : Nat) : Out := classO L len (L.length + 1 - n) (if letAt L (n + 1) = 94 then n + 2 else n + 1)
def countL (L : List (Int × Int)) : Nat → Int → Nat → Int × Nat
  | 0, c, n => (c, n)
  | f + 1, c, n => if dig (letAt L n) = true then countL L f (min (c * 10 + (letAt L n - 48)) 101) (n + 1) else (c, n)
def countP (L : List (Int × Int)) (n : Nat) : Int × Nat := countL L (L.length + 1 - n) 0 n
def countO (L : List (Int × Int)) (len : Int) (n : Nat) : Out :=
  if dig (letAt L n) = false then bad 3 (placeAt L len n) n
  else if 100 < (countP L n).1 then bad 5 (placeAt L len n) (countP L n).2
  else good (countP L n).1 (countP L n).2
/-- The counts behind a brace at n: told as an answer with the least number; with the greatest (-1: none). -/
def countsO (L : List (Int × Int)) (len : Int) (n : Nat) : Out × Int :=
  let a := countO L len (n + 1)
  if a.k ≠ 0 then (a, 0)
  else if letAt L a.n = 125 then (good a.v (a.n + 1), a.v)
  else if letAt L a.n ≠ 44 then (bad 3 (placeAt L len a.n) a.n, 0)
  else if letAt L (a.n + 1) = 125 then (good a.v (a.n + 2), -1)
  else
    let m := countO L len (a.n + 1)
    if m.k ≠ 0 then (m, 0)
    else if letAt L m.n ≠ 125 then (bad 3 (placeAt L len m.n) m.n, 0)
    else if m.v < a.v then (bad 4 (placeAt L len n) (m.n + 1), 0)
    else (good a.v (m.n + 1), m.v)
end Pro

/-- What a reader's method answers: a value and no fault, or the fault that is told. -/
def Tells (b : Nat) (L : List (Int × Int)) (len dp : Int) (a : Nat → Addr) (w : World) (o : Pro.Out) (yes no : Value) (x : Ending) (w' : World) : Prop :=
  Only (Mine b) w w' ∧ RdAt w' b L o.n len dp ∧ ((o.k = 0 ∧ x = .returned (.tuple #[yes, .nilIface])) ∨ (o.k ≠ 0 ∧ ∃ v, x = .returned (.tuple #[no, v]) ∧ FaultAt w' w.heap.size v (sentV a o.k) o.p))

theorem told_yes {w' : World} {base : Nat} {a : Nat → Addr} {o : Pro.Out} {yes no : Value} {x : Ending} (h : (o.k = 0 ∧ x = .returned (.tuple #[yes, .nilIface])) ∨ (o.k ≠ 0 ∧ ∃ v, x = .returned (.tuple #[no, v]) ∧ FaultAt w' base v (sentV a o.k) o.p)) (hk : o.k = 0) : x = .returned (.tuple #[yes, .nilIface]) := by
  rcases h with ⟨_, h⟩ | ⟨h, _⟩
  · exact h
  · exact absurd hk h
theorem told_no {w' : World} {base : Nat} {a : Nat → Addr} {o : Pro.Out} {yes no : Value} {x : Ending} (h : (o.k = 0 ∧ x = .returned (.tuple #[yes, .nilIface])) ∨ (o.k ≠ 0 ∧ ∃ v, x = .returned (.tuple #[no, v]) ∧ FaultAt w' base v (sentV a o.k) o.p)) (hk : o.k ≠ 0) : ∃ v, x = .returned (.tuple #[no, v]) ∧ FaultAt w' base v (sentV a o.k) o.p := by
  rcases h with ⟨h, _⟩ | ⟨_, h⟩
  · exact absurd h hk
  · exact h
theorem Sents.mine {b : Nat} {w w' : World} {a : Nat → Addr} (h : Sents w a) (k : Only (Mine b) w w') (hb : 10 ≤ b) : Sents w' a := h.keep k (fun j hj e => by unfold Mine at e; omega)

theorem Sents.drewN {w : World} {a : Nat → Addr} (h : Sents w a) (q : Nat) : Sents (w.drewN q) a := h.keep ((Only.refl (fun _ => False) w).drewN q) (fun _ _ f => f)

end Go.Proofs.YtdhmllobgijggaaGreatDoor
namespace Go.Proofs.YtdhmllobgijggaaGreatDoor
open Go.RowKit

theorem told_bad {b : Nat} {L : List (Int × Int)} {len dp : Int} {a : Nat → Addr} {w w' : World} {o : Pro.Out} {yes no v : Value} {k n : Nat} {p : Int} (ho : o = Pro.bad k p n) (hk : k ≠ 0) (hO : Only (Mine b) w w') (hR : RdAt w' b L n len dp) (hF : FaultAt w' w.heap.size v (sentV a k) p) :
    Tells b L len dp a w o yes no (.returned (.tuple #[no, v])) w' := by
  subst ho
  exact ⟨hO, hR, .inr ⟨hk, v, rfl, hF⟩⟩
theorem told_good {b : Nat} {L : List (Int × Int)} {len dp : Int} {a : Nat → Addr} {w w' : World} {o : Pro.Out} {yes yes' no : Value} {v : Int} {n : Nat} (ho : o = Pro.good v n) (hy : yes' = yes) (hO : Only (Mine b) w w') (hR : RdAt w' b L n len dp) :
    Tells b L len dp a w o yes no (.returned (.tuple #[yes', .nilIface])) w' := by
  subst ho; subst hy
  exact ⟨hO, hR, .inl ⟨rfl, rfl⟩⟩
theorem pro_and31 (x : Int) (h0 : 0 ≤ x) (h1 : x < 2147483648) : bits .and .i32 x 31 = x % 32 := bits_mask .i32 31 (by decide) wraps_i32 5 (by decide) x h0 (by omega)
theorem pro_pow16 (k : Nat) (h : k ≤ 4) : (16 : Int) ^ k ≤ 65536 := by
  have : k = 0 ∨ k = 1 ∨ k = 2 ∨ k = 3 ∨ k = 4 := by omega
  rcases this with rfl | rfl | rfl | rfl | rfl <;> decide
namespace Pro
theorem hexV_hi (b : Int) : hexV b ≤ 15 := by unfold hexV; (repeat' split) <;> omega
theorem hexV_lo (b : Int) : -1 ≤ hexV b := by unfold hexV; (repeat' split) <;> omega
theorem hexO_bad {L : List (Int × Int)} {len : Int} {f n : Nat} {c : Int} (h : hexV (letAt L n) < 0) : hexO L len (f + 1) c n = bad 3 (placeAt L len n) n := by simp only [hexO]; rw [if_pos h]
theorem hexO_good {L : List (Int × Int)} {len : Int} {f n : Nat} {c : Int} (h : 0 ≤ hexV (letAt L n)) : hexO L len (f + 1) c n = hexO L len f (16 * c + hexV (letAt L n)) (n + 1) := by simp only [hexO]; rw [if_neg (by omega)]
theorem hexV_in {L : List (Int × Int)} {n : Nat} (h : 0 ≤ hexV (letAt L n)) : n < L.length := by
  by_cases hn : n < L.length
  · exact hn
  · rw [letAt_out (by omega)] at h; exact absurd h (by decide)
end Pro
theorem pro_or4 (x y : Int) (h0 : 0 ≤ x) (h1 : x < 134217728) (h2 : 0 ≤ y) (h3 : y < 16) : bits .or .i32 (x * 16) y = 16 * x + y := by
  rw [bits_join .i32 31 (by decide) wraps_i32 4 (x * 16) y (by omega) (by omega) (by omega) h2 (by omega) (by omega)]
  omega
theorem Only.none {P : Nat → Prop} {w w' : World} (h : Only (fun _ => False) w w') : Only P w w' := h.mono (fun _ _ f => f.elim)

set_option maxHeartbeats 400000 in
theorem pcontrol_any (b : Nat) (L : List (Int × Int)) (n : Nat) (len dp : Int) (a : Nat → Addr) (w : World) (h : RdAt w b L n len dp) (hS : Sents w a) (_hb : 10 ≤ b) (hL : L.length ≤ 400) (hn : n ≤ L.length) (hF : Pro.Fit L) :
    Calls Tryz.prog 132 #[.pointer (some ⟨b, 0, none⟩)] w (Tells b L len dp a w (Pro.controlO L len n) (.int .i32 (Pro.controlO L len n).v) (.int .i32 0)) := by
  have H := hide h
  have HS := hide hS
  have hfit := hF n
  clear hS hF
  by_cases hlet : Pro.letter (Pro.letAt L n)
  · have HO : Hid (Pro.controlO L len n = Pro.good (Pro.letAt L n % 32) (n + 1)) := by unfold Pro.controlO; rw [if_pos hlet]; rfl
    obtain ⟨c0, c1, c2, c3, f1, f3⟩ := h
    clear c0 c2 c3 f3
    unfold Pro.letter at hlet
    go_enter Tryz.func132, Tryz.ntmps132
    go_wp2_with (go_at_call 89; refine (peek_any b L (n) len dp _ (by first | exact unhide H | exact (unhide H).drewN _ | exact ((unhide H).drewN _).drewN _ | exact (unhide H).setN _ _ (by omega) | exact ((unhide H).drewN _).setN _ _ (by omega) | exact ((unhide H).setN _ _ (by omega)).drewN _) hL (by omega)).mono ?_; rintro e wq ⟨rfl, hwq⟩; have hwr := hwq.symm; subst hwr; clear hwq)
    all_goals
      go_ret2
      refine told_good (unhide HO) ?_ ((Only.refl _ _).mine _ _) ((unhide H).setN _ _ (by omega))
      rw [unhide HO]
      show Value.int .i32 _ = Value.int .i32 _
      rw [pro_and31 _ (by omega) (by omega)]
      rfl
  · have HO : Hid (Pro.controlO L len n = Pro.bad 3 (Pro.placeAt L len n) n) := by unfold Pro.controlO; rw [if_neg hlet]; rfl
    unfold Pro.letter at hlet
    clear h
    go_enter Tryz.func132, Tryz.ntmps132
    go_wp2_with (first | (go_at_call 89; refine (peek_any b L (n) len dp _ (by first | exact unhide H | exact (unhide H).drewN _ | exact ((unhide H).drewN _).drewN _ | exact (unhide H).setN _ _ (by omega) | exact ((unhide H).drewN _).setN _ _ (by omega) | exact ((unhide H).setN _ _ (by omega)).drewN _) hL (by omega)).mono ?_; rintro e wq ⟨rfl, hwq⟩; have hwr := hwq.symm; subst hwr; clear hwq) | (go_at_call 50; refine (wrong_at b L (n) len dp a _ (by first | exact unhide H | exact (unhide H).drewN _ | exact ((unhide H).drewN _).drewN _ | exact (unhide H).setN _ _ (by omega) | exact ((unhide H).drewN _).setN _ _ (by omega) | exact ((unhide H).setN _ _ (by omega)).drewN _) (by first | exact unhide HS | exact (unhide HS).drewN _ | exact (unhide HS).mine ((Only.refl _ _).mine _ _) hb | exact (unhide HS).mine (((Only.refl _ _).drewN _).mine _ _) hb) hL (by omega)).mono ?_; rintro e wq ⟨v, rfl, hv, hO1⟩))
    all_goals
      go_ret2
      exact told_bad (unhide HO) (by decide) hO1.none ((unhide H).keep hO1 (fun f => f) (fun _ _ f => f)) hv

set_option maxHeartbeats 800000 in
theorem hexNumber_any (b : Nat) (L : List (Int × Int)) (n : Nat) (len dp : Int) (a : Nat → Addr) (d : Nat) (w : World) (h : RdAt w b L n len dp) (hS : Sents w a) (hb : 10 ≤ b) (hL : L.length ≤ 400) (hn : n ≤ L.length) (hF : Pro.Fit L) (hd : d ≤ 4) :
    Calls Tryz.prog 133 #[.pointer (some ⟨b, 0, none⟩), .int .i64 d] w (Tells b L len dp a w (Pro.hexO L len d 0 n) (.int .i32 (Pro.hexO L len d 0 n).v) (.int .i32 0)) := by
  have HS := hide hS
  clear hS
  go_enter Tryz.func133, Tryz.ntmps133
  go_wp2_with fail
  go_loopw [6, 10] (fun c i wr => ∃ (k : Nat) (q : Int), k ≤ d ∧ i = .int .i64 k ∧ c = .int .i32 q ∧ 0 ≤ q ∧ q < (16 : Int) ^ k ∧ n + k ≤ L.length ∧ Hid (RdAt wr b L (n + k) len dp) ∧ Only (Mine b) w wr ∧ Hid (Pro.hexO L len d 0 n = Pro.hexO L len (d - k) q (n + k)))
    (fun _ i _ => d - (intOf i).toNat)
  case atStart => exact ⟨0, 0, Nat.zero_le _, rfl, rfl, by omega, by simp, by omega, h, Only.refl _ _, rfl⟩
  case round =>
    obtain ⟨k, q, hk, rfl, rfl, hq0, hq1, hnk, H, hO, HF⟩ := hrel
    have hp : (16 : Int) ^ k ≤ 65536 := pro_pow16 k (by omega)
    have hd1 := Pro.hexV_hi (Pro.letAt L (n + k))
    have hd0 := Pro.hexV_lo (Pro.letAt L (n + k))
    have hfit := hF (n + k)
    by_cases hlt : k < d
    · by_cases hd : Pro.hexV (Pro.letAt L (n + k)) < 0
      · have HF1 : Hid (Pro.hexO L len d 0 n = Pro.bad 3 (Pro.placeAt L len (n + k)) (n + k)) := by
          rw [unhide HF, show d - k = (d - k - 1) + 1 by omega]; exact Pro.hexO_bad hd
        have hB : Pro.hexB (Pro.letAt L (n + k)) = false := by unfold Pro.hexB; simp; omega
        have HS := hide ((unhide HS).mine hO hb)
        go_wp2_with (first | (go_at_call 89; refine (peek_any b L (n + k) len dp _ (by first | exact unhide H | exact (unhide H).drewN _ | exact ((unhide H).drewN _).drewN _ | exact (unhide H).setN _ _ (by omega) | exact ((unhide H).drewN _).setN _ _ (by omega) | exact ((unhide H).setN _ _ (by omega)).drewN _) hL (by omega)).mono ?_; rintro e wq ⟨rfl, hwq⟩; have hwr := hwq.symm; subst hwr; clear hwq) | (go_at_call 141; refine (hexValue_any _ _ (by omega) (by omega)).mono ?_; rintro e wq ⟨rfl, hwq⟩; have hwr := hwq.symm; subst hwr; clear hwq) | (go_at_call 50; refine (wrong_at b L (n + k) len dp a _ (by first | exact unhide H | exact (unhide H).drewN _ | exact ((unhide H).drewN _).drewN _ | exact (unhide H).setN _ _ (by omega) | exact ((unhide H).drewN _).setN _ _ (by omega) | exact ((unhide H).setN _ _ (by omega)).drewN _) (by first | exact unhide HS | exact (unhide HS).drewN _ | exact (unhide HS).mine ((Only.refl _ _).mine _ _) hb | exact (unhide HS).mine (((Only.refl _ _).drewN _).mine _ _) hb) hL (by omega)).mono ?_; rintro e wq ⟨v, rfl, hv, hO1⟩))
        go_ret2
        exact told_bad (unhide HF1) (by decide) (hO.trans hO1.none) ((unhide H).keep hO1 (fun f => f) (fun _ _ f => f)) (hv.base hO.size)
      · have HF1 : Hid (Pro.hexO L len d 0 n = Pro.hexO L len (d - (k + 1)) (16 * q + Pro.hexV (Pro.letAt L (n + k))) (n + (k + 1))) := by
          rw [unhide HF, show d - k = (d - (k + 1)) + 1 by omega]; exact Pro.hexO_good (by omega)
        have hlen : n + k < L.length := Pro.hexV_in (by omega)
        have hB : Pro.hexB (Pro.letAt L (n + k)) = true := by unfold Pro.hexB; simp; omega
        have hN : Pro.hexN (Pro.letAt L (n + k)) = Pro.hexV (Pro.letAt L (n + k)) := by unfold Pro.hexN; rw [if_neg hd]
        have hp' : (16 : Int) ^ (k + 1) = 16 * (16 : Int) ^ k := by rw [Int.pow_succ]; omega
        have hpn : 16 * q + Pro.hexV (Pro.letAt L (n + k)) < (16 : Int) ^ (k + 1) := by omega
        have Hpn := hide hpn
        clear hp' hpn
        have hc := unhide H
        obtain ⟨c0, c1, c2, c3, f1, f3⟩ := hc
        clear c0 c2 c3 f3
        go_wp2_with (first | (go_at_call 89; refine (peek_any b L (n + k) len dp _ (by first | exact unhide H | exact (unhide H).drewN _ | exact ((unhide H).drewN _).drewN _ | exact (unhide H).setN _ _ (by omega) | exact ((unhide H).drewN _).setN _ _ (by omega) | exact ((unhide H).setN _ _ (by omega)).drewN _) hL (by omega)).mono ?_; rintro e wq ⟨rfl, hwq⟩; have hwr := hwq.symm; subst hwr; clear hwq) | (go_at_call 141; refine (hexValue_any _ _ (by omega) (by omega)).mono ?_; rintro e wq ⟨rfl, hwq⟩; have hwr := hwq.symm; subst hwr; clear hwq))
        refine ⟨⟨k + 1, 16 * q + Pro.hexV (Pro.letAt L (n + k)), by omega, by go_num, ?_, by omega, unhide Hpn, by omega, (unhide H).setN _ _ (by omega), hO.mine _ _, HF1⟩, by simp [intOf]; omega⟩
        rw [pro_or4 _ _ hq0 (by omega) (by omega) (by omega)]
    · have HF1 : Hid (Pro.hexO L len d 0 n = Pro.good q (n + k)) := by
        rw [unhide HF, show d - k = 0 by omega]; rfl
      go_wp2_with fail
      go_ret2
      exact told_good (unhide HF1) (by rw [unhide HF1]; rfl) hO (unhide H)
end Go.Proofs.YtdhmllobgijggaaGreatDoor
namespace Go.Proofs.YtdhmllobgijggaaGreatDoor
open Go.RowKit

namespace Pro
theorem matchB_one (L : List (Int × Int)) (n : Nat) (c : UInt8) (k : Int) (hk : k = (c.toNat : Int)) : matchB L n { data := #[c] } = decide (letAt L n = k) := by
  subst hk
  show matchF L n { data := #[c] } 1 0 = _
  simp only [matchF]
  have : byteAt { data := #[c] } 0 = (c.toNat : Int) := rfl
  rw [this]
  by_cases h : letAt L (n + 0) = (c.toNat : Int)
  · rw [if_pos h]; simpa using h
  · rw [if_neg h]; simpa using h
theorem matchB_two (L : List (Int × Int)) (n : Nat) (c d : UInt8) (k j : Int) (hk : k = (c.toNat : Int)) (hj : j = (d.toNat : Int)) : matchB L n { data := #[c, d] } = decide (letAt L n = k ∧ letAt L (n + 1) = j) := by
  subst hk; subst hj
  show matchF L n { data := #[c, d] } 2 0 = _
  simp only [matchF]
  have e0 : byteAt { data := #[c, d] } 0 = (c.toNat : Int) := rfl
  have e1 : byteAt { data := #[c, d] } (0 + 1) = (d.toNat : Int) := rfl
  rw [e0, e1]
  by_cases h : letAt L (n + 0) = (c.toNat : Int)
  · rw [if_pos h]
    by_cases h' : letAt L (n + (0 + 1)) = (d.toNat : Int)
    · rw [if_pos h']; simp only [Nat.add_zero, Nat.zero_add] at h h'; simp [h, h']
    · rw [if_neg h']; simp only [Nat.add_zero, Nat.zero_add] at h h'; simp [h, h']
  · rw [if_neg h]; simp only [Nat.add_zero] at h; simp [h]
theorem letAt_in' {L : List (Int × Int)} {n : Nat} (h : 0 ≤ letAt L n) : n < L.length := by
  by_cases hn : n < L.length
  · exact hn
  · rw [letAt_out (by omega)] at h; omega
theorem bracedO_close {L : List (Int × Int)} {len : Int} {f d n : Nat} {c : Int} (h : 0 < d) (h1 : letAt L n = 125) : bracedO L len (f + 1) c d n = good c (n + 1) := by simp only [bracedO]; rw [if_pos ⟨h, h1⟩]
theorem bracedO_bad {L : List (Int × Int)} {len : Int} {f d n : Nat} {c : Int} (h : ¬ (0 < d ∧ letAt L n = 125)) (h1 : hexV (letAt L n) < 0 ∨ 1114111 < 16 * c + hexV (letAt L n)) : bracedO L len (f + 1) c d n = bad 3 (placeAt L len n) n := by simp only [bracedO]; rw [if_neg h, if_pos h1]
theorem bracedO_good {L : List (Int × Int)} {len : Int} {f d n : Nat} {c : Int} (h : ¬ (0 < d ∧ letAt L n = 125)) (h1 : ¬ (hexV (letAt L n) < 0 ∨ 1114111 < 16 * c + hexV (letAt L n))) : bracedO L len (f + 1) c d n = bracedO L len f (16 * c + hexV (letAt L n)) (d + 1) (n + 1) := by simp only [bracedO]; rw [if_neg h, if_neg h1]
end Pro

set_option maxHeartbeats 800000 in
theorem bracedNumber_any (b : Nat) (L : List (Int × Int)) (n : Nat) (len dp : Int) (a : Nat → Addr) (w : World) (h : RdAt w b L n len dp) (hS : Sents w a) (hb : 10 ≤ b) (hL : L.length ≤ 400) (hn : n ≤ L.length) (hF : Pro.Fit L) :
    Calls Tryz.prog 134 #[.pointer (some ⟨b, 0, none⟩)] w (Tells b L len dp a w (Pro.bracedP L len n) (.int .i32 (Pro.bracedP L len n).v) (.int .i32 0)) := by
  have HS := hide hS
  clear hS
  go_enter Tryz.func134, Tryz.ntmps134
  go_wp2_with fail
  go_loopw [4, 5] (fun c i wr => ∃ (d : Nat) (q : Int), i = .int .i64 d ∧ c = .int .i32 q ∧ 0 ≤ q ∧ q ≤ 1114111 ∧ n + d ≤ L.length ∧ Hid (RdAt wr b L (n + d) len dp) ∧ Only (Mine b) w wr ∧ Hid (Pro.bracedP L len n = Pro.bracedO L len (L.length + 1 - (n + d)) q d (n + d)))
    (fun _ i _ => L.length - (intOf i).toNat)
  case atStart => exact ⟨0, 0, rfl, rfl, by omega, by omega, by omega, h, Only.refl _ _, rfl⟩
  case round =>
    obtain ⟨d, q, rfl, rfl, hq0, hq1, hnd, H, hO, HF⟩ := hrel
    have hd1 := Pro.hexV_hi (Pro.letAt L (n + d))
    have hd0 := Pro.hexV_lo (Pro.letAt L (n + d))
    have hfit := hF (n + d)
    by_cases hc : 0 < d ∧ Pro.letAt L (n + d) = 125
    · have HF1 : Hid (Pro.bracedP L len n = Pro.good q (n + d + 1)) := by
        rw [unhide HF, show L.length + 1 - (n + d) = (L.length - (n + d)) + 1 by omega]; exact Pro.bracedO_close hc.1 hc.2
      have hz : ((d : Int) == 0) = false := by simp; omega
      have hm : Pro.matchB L (n + d) { data := #[125] } = true := by rw [Pro.matchB_one L (n + d) 125 125 rfl]; simp [hc.2]
      clear hc
      go_wp2_with (go_at_call 71; refine (take_yes b L (n + d) len dp _ _ (by first | exact unhide H | exact (unhide H).drewN _ | exact ((unhide H).drewN _).drewN _ | exact (unhide H).setN _ _ (by omega) | exact ((unhide H).drewN _).setN _ _ (by omega) | exact ((unhide H).setN _ _ (by omega)).drewN _) hL (by omega) (by decide) (by assumption)).mono ?_; rintro e wq ⟨rfl, hR1, hO1⟩)
      go_ret2
      exact told_good (unhide HF1) (by rw [unhide HF1]; rfl) (hO.trans hO1) hR1
    · by_cases hbd : Pro.hexV (Pro.letAt L (n + d)) < 0 ∨ 1114111 < 16 * q + Pro.hexV (Pro.letAt L (n + d))
      · have HF1 : Hid (Pro.bracedP L len n = Pro.bad 3 (Pro.placeAt L len (n + d)) (n + d)) := by
          rw [unhide HF, show L.length + 1 - (n + d) = (L.length - (n + d)) + 1 by omega]; exact Pro.bracedO_bad hc hbd
        have HS := hide ((unhide HS).mine hO hb)
        have hcs : (((d : Int) == 0) = true) ∨ (((d : Int) == 0) = false ∧ Pro.matchB L (n + d) { data := #[125] } = false) := by
          by_cases hz : d = 0
          · left; simp [hz]
          · right; exact ⟨by simp; omega, by rw [Pro.matchB_one L (n + d) 125 125 rfl]; simp; omega⟩
        have hvs : (Pro.hexB (Pro.letAt L (n + d)) = false) ∨ (Pro.hexB (Pro.letAt L (n + d)) = true ∧ bits BinOp.or IntKind.i32 (q * 16) (Pro.hexN (Pro.letAt L (n + d))) = 16 * q + Pro.hexV (Pro.letAt L (n + d)) ∧ 1114111 < 16 * q + Pro.hexV (Pro.letAt L (n + d))) := by
          by_cases hx : Pro.hexV (Pro.letAt L (n + d)) < 0
          · left; unfold Pro.hexB; simp; omega
          · right
            refine ⟨by unfold Pro.hexB; simp; omega, ?_, by omega⟩
            have : Pro.hexN (Pro.letAt L (n + d)) = Pro.hexV (Pro.letAt L (n + d)) := by unfold Pro.hexN; rw [if_neg hx]
            rw [this]; exact pro_or4 _ _ hq0 (by omega) (by omega) (by omega)
        clear hc hbd
        rcases hcs with hz | ⟨hz, hm⟩
        all_goals
          rcases hvs with hB | ⟨hB, hor, hbig⟩
        all_goals
          go_wp2_with (first | (go_at_call 71; refine (take_no b L (n + d) len dp _ _ (by first | exact unhide H | exact (unhide H).drewN _ | exact ((unhide H).drewN _).drewN _ | exact (unhide H).setN _ _ (by omega) | exact ((unhide H).drewN _).setN _ _ (by omega) | exact ((unhide H).setN _ _ (by omega)).drewN _) hL (by omega) (by decide) (by assumption)).mono ?_; rintro e wq ⟨rfl, qq, rfl⟩) | (go_at_call 89; refine (peek_any b L (n + d) len dp _ (by first | exact unhide H | exact (unhide H).drewN _ | exact ((unhide H).drewN _).drewN _ | exact (unhide H).setN _ _ (by omega) | exact ((unhide H).drewN _).setN _ _ (by omega) | exact ((unhide H).setN _ _ (by omega)).drewN _) hL (by omega)).mono ?_; rintro e wq ⟨rfl, hwq⟩; have hwr := hwq.symm; subst hwr; clear hwq) | (go_at_call 141; refine (hexValue_any _ _ (by omega) (by omega)).mono ?_; rintro e wq ⟨rfl, hwq⟩; have hwr := hwq.symm; subst hwr; clear hwq) | (go_at_call 50; refine (wrong_at b L (n + d) len dp a _ (by first | exact unhide H | exact (unhide H).drewN _ | exact ((unhide H).drewN _).drewN _ | exact (unhide H).setN _ _ (by omega) | exact ((unhide H).drewN _).setN _ _ (by omega) | exact ((unhide H).setN _ _ (by omega)).drewN _) (by first | exact unhide HS | exact (unhide HS).drewN _ | exact (unhide HS).mine ((Only.refl _ _).mine _ _) hb | exact (unhide HS).mine (((Only.refl _ _).drewN _).mine _ _) hb) hL (by omega)).mono ?_; rintro e wq ⟨v, rfl, hv, hO1⟩))
        all_goals
          go_ret2
          first
            | exact told_bad (unhide HF1) (by decide) (hO.trans hO1.none) ((unhide H).keep hO1 (fun f => f) (fun _ _ f => f)) (hv.base hO.size)
            | exact told_bad (unhide HF1) (by decide) ((hO.drewN _).trans hO1.none) (((unhide H).drewN _).keep hO1 (fun f => f) (fun _ _ f => f)) (hv.base hO.size)
      · have HF1 : Hid (Pro.bracedP L len n = Pro.bracedO L len (L.length + 1 - (n + (d + 1))) (16 * q + Pro.hexV (Pro.letAt L (n + d))) (d + 1) (n + (d + 1))) := by
          have hlen : n + d < L.length := Pro.hexV_in (by omega)
          rw [unhide HF, show L.length + 1 - (n + d) = (L.length + 1 - (n + (d + 1))) + 1 by omega]; exact Pro.bracedO_good hc hbd
        have hlen : n + d < L.length := Pro.hexV_in (by omega)
        have hcs : (((d : Int) == 0) = true) ∨ (((d : Int) == 0) = false ∧ Pro.matchB L (n + d) { data := #[125] } = false) := by
          by_cases hz : d = 0
          · left; simp [hz]
          · right; exact ⟨by simp; omega, by rw [Pro.matchB_one L (n + d) 125 125 rfl]; simp; omega⟩
        have hB : Pro.hexB (Pro.letAt L (n + d)) = true := by unfold Pro.hexB; simp; omega
        have hor : bits BinOp.or IntKind.i32 (q * 16) (Pro.hexN (Pro.letAt L (n + d))) = 16 * q + Pro.hexV (Pro.letAt L (n + d)) := by
          have : Pro.hexN (Pro.letAt L (n + d)) = Pro.hexV (Pro.letAt L (n + d)) := by unfold Pro.hexN; rw [if_neg (by omega)]
          rw [this]; exact pro_or4 _ _ hq0 (by omega) (by omega) (by omega)
        have hsm : 16 * q + Pro.hexV (Pro.letAt L (n + d)) ≤ 1114111 := by omega
        have hge : 0 ≤ 16 * q + Pro.hexV (Pro.letAt L (n + d)) := by omega
        clear hc hbd
        have hc := unhide H
        obtain ⟨c0, c1, c2, c3, f1, f3⟩ := hc
        clear c0 c2 c3 f3
        rcases hcs with hz | ⟨hz, hm⟩
        all_goals
          go_wp2_with (first | (go_at_call 71; refine (take_no b L (n + d) len dp _ _ (by first | exact unhide H | exact (unhide H).drewN _ | exact ((unhide H).drewN _).drewN _ | exact (unhide H).setN _ _ (by omega) | exact ((unhide H).drewN _).setN _ _ (by omega) | exact ((unhide H).setN _ _ (by omega)).drewN _) hL (by omega) (by decide) (by assumption)).mono ?_; rintro e wq ⟨rfl, qq, rfl⟩) | (go_at_call 89; refine (peek_any b L (n + d) len dp _ (by first | exact unhide H | exact (unhide H).drewN _ | exact ((unhide H).drewN _).drewN _ | exact (unhide H).setN _ _ (by omega) | exact ((unhide H).drewN _).setN _ _ (by omega) | exact ((unhide H).setN _ _ (by omega)).drewN _) hL (by omega)).mono ?_; rintro e wq ⟨rfl, hwq⟩; have hwr := hwq.symm; subst hwr; clear hwq) | (go_at_call 141; refine (hexValue_any _ _ (by omega) (by omega)).mono ?_; rintro e wq ⟨rfl, hwq⟩; have hwr := hwq.symm; subst hwr; clear hwq))
        all_goals
          exact ⟨⟨d + 1, 16 * q + Pro.hexV (Pro.letAt L (n + d)), by go_num, rfl, hge, hsm, by omega, (by first | exact (unhide H).setN _ _ (by omega) | exact ((unhide H).drewN _).setN _ _ (by omega)), (by first | exact hO.mine _ _ | exact (hO.drewN _).mine _ _), HF1⟩, by simp [intOf]; omega⟩

namespace Pro
theorem hexO_v (L : List (Int × Int)) (len : Int) : ∀ (f : Nat) (c : Int) (n : Nat), 0 ≤ c → c < (16 : Int) ^ (4 - f) → f ≤ 4 → 0 ≤ (hexO L len f c n).v ∧ (hexO L len f c n).v ≤ 65535
  | 0, c, n, h0, h1, _ => by simp only [hexO, good]; simp at h1; omega
  | f + 1, c, n, h0, h1, h2 => by
    have hp : (16 : Int) ^ (4 - f) = 16 * (16 : Int) ^ (4 - (f + 1)) := by rw [show 4 - f = (4 - (f + 1)) + 1 by omega, Int.pow_succ]; omega
    have hd := hexV_hi (letAt L n)
    by_cases hb : hexV (letAt L n) < 0
    · rw [hexO_bad hb]; simp only [bad]; omega
    · rw [hexO_good (by omega)]
      exact hexO_v L len f _ (n + 1) (by omega) (by omega) (by omega)
theorem hexO_n (L : List (Int × Int)) (len : Int) : ∀ (f : Nat) (c : Int) (n : Nat), n ≤ L.length → n ≤ (hexO L len f c n).n ∧ (hexO L len f c n).n ≤ L.length ∧ ((hexO L len f c n).k = 0 → (hexO L len f c n).n = n + f)
  | 0, c, n, h => by simp only [hexO, good]; omega
  | f + 1, c, n, h => by
    by_cases hb : hexV (letAt L n) < 0
    · rw [hexO_bad hb]; simp only [bad]; omega
    · rw [hexO_good (by omega)]
      have hlt : n < L.length := hexV_in (by omega)
      have := hexO_n L len f (16 * c + hexV (letAt L n)) (n + 1) (by omega)
      omega
theorem lowV_bd {L : List (Int × Int)} {len : Int} {n : Nat} (h : 0 ≤ lowV L len n) : 56320 ≤ lowV L len n ∧ lowV L len n ≤ 57343 := by
  unfold lowV at h ⊢
  split at h
  · rename_i hh; rw [if_pos hh]; omega
  · omega
end Pro

set_option maxHeartbeats 800000 in
theorem secondHalf_any (b : Nat) (L : List (Int × Int)) (n : Nat) (len dp : Int) (a : Nat → Addr) (w : World) (h : RdAt w b L n len dp) (hS : Sents w a) (hb : 10 ≤ b) (hL : L.length ≤ 400) (hn : n ≤ L.length) (hF : Pro.Fit L) :
    Calls Tryz.prog 142 #[.pointer (some ⟨b, 0, none⟩)] w fun x w' => Only (Mine b) w w' ∧ ((0 ≤ Pro.lowV L len n ∧ x = .returned (.tuple #[.int .i32 (Pro.lowV L len n), .bool true]) ∧ RdAt w' b L (n + 6) len dp) ∨ (Pro.lowV L len n = -1 ∧ x = .returned (.tuple #[.int .i32 0, .bool false]) ∧ RdAt w' b L n len dp)) := by
  have H := hide h
  have HS := hide hS
  clear hS
  obtain ⟨c0, c1, c2, c3, f1, f3⟩ := h
  clear c0 c2 c3 f3
  cases hm : Pro.matchB L n { data := #[92, 117] }
  · have hv : Hid (Pro.lowV L len n = -1) := by
      rw [Pro.matchB_two L n 92 117 92 117 rfl rfl] at hm
      simp only [decide_eq_false_iff_not] at hm
      unfold Pro.lowV; rw [if_neg (fun hh => hm ⟨hh.1, hh.2.1⟩)]; rfl
    go_enter Tryz.func142, Tryz.ntmps142
    go_wp2_with (go_at_call 71; refine (take_no b L (n) len dp _ _ (by first | exact unhide H | exact (unhide H).drewN _ | exact ((unhide H).drewN _).drewN _ | exact (unhide H).setN _ _ (by omega) | exact ((unhide H).drewN _).setN _ _ (by omega) | exact ((unhide H).setN _ _ (by omega)).drewN _) hL (by omega) (by decide) (by assumption)).mono ?_; rintro e wq ⟨rfl, qq, rfl⟩)
    go_ret2
    exact ⟨((Only.refl _ _).drewN _).mine _ _, .inr ⟨unhide hv, rfl, ((unhide H).drewN _).setN _ _ rfl⟩⟩
  · have hmm : Pro.letAt L n = 92 ∧ Pro.letAt L (n + 1) = 117 := by
      rw [Pro.matchB_two L n 92 117 92 117 rfl rfl] at hm
      simpa using hm
    have hn2 : n + 1 < L.length := Pro.letAt_in' (by omega)
    have hvb := Pro.hexO_v L len 4 0 (n + 2) (by omega) (by decide) (by omega)
    have hnb := Pro.hexO_n L len 4 0 (n + 2) (by omega)
    by_cases hk : (Pro.hexO L len 4 0 (n + 2)).k = 0
    · by_cases hin : 56320 ≤ (Pro.hexO L len 4 0 (n + 2)).v ∧ (Pro.hexO L len 4 0 (n + 2)).v ≤ 57343
      · have hv : Hid (Pro.lowV L len n = (Pro.hexO L len 4 0 (n + 2)).v) := by
          unfold Pro.lowV; rw [if_pos ⟨hmm.1, hmm.2, hk, hin.1, hin.2⟩]; rfl
        obtain ⟨hi1, hi2⟩ := hin
        clear hmm
        go_enter Tryz.func142, Tryz.ntmps142
        go_wp2_with (first | (go_at_call 71; refine (take_yes b L (n) len dp _ _ (by first | exact unhide H | exact (unhide H).drewN _ | exact ((unhide H).drewN _).drewN _ | exact (unhide H).setN _ _ (by omega) | exact ((unhide H).drewN _).setN _ _ (by omega) | exact ((unhide H).setN _ _ (by omega)).drewN _) hL (by omega) (by decide) (by assumption)).mono ?_; rintro e w1 ⟨rfl, hR1, hO1⟩; have hR1 : RdAt w1 b L ((n) + 2) len dp := hR1; have H1 := hide hR1); (have HS := hide ((unhide HS).mine hO1 hb)) | (go_at_call 133; refine (hexNumber_any b L (n + 2) len dp a 4 _ (by first | exact unhide H1 | exact (unhide H1).drewN _ | exact ((unhide H1).drewN _).drewN _ | exact (unhide H1).setN _ _ (by omega) | exact ((unhide H1).drewN _).setN _ _ (by omega) | exact ((unhide H1).setN _ _ (by omega)).drewN _) (by first | exact unhide HS | exact (unhide HS).drewN _ | exact (unhide HS).mine ((Only.refl _ _).mine _ _) hb | exact (unhide HS).mine (((Only.refl _ _).drewN _).mine _ _) hb) hb hL (by omega) hF (by omega)).mono ?_; rintro e w2 ⟨hO2, hR2, hT2⟩; obtain rfl := told_yes hT2 hk; have H2 := hide hR2; have c12 := hR2.c1; have f12 := hR2.f1))
        go_ret2
        exact ⟨hO1.trans hO2, .inl ⟨by rw [unhide hv]; omega, by rw [unhide hv]; rfl, by have := hnb.2.2 hk; rw [this] at hR2; exact hR2⟩⟩
      · have hv : Hid (Pro.lowV L len n = -1) := by
          unfold Pro.lowV; rw [if_neg (fun hh => hin ⟨hh.2.2.2.1, hh.2.2.2.2⟩)]; rfl
        clear hmm
        go_enter Tryz.func142, Tryz.ntmps142
        go_wp2_with (first | (go_at_call 71; refine (take_yes b L (n) len dp _ _ (by first | exact unhide H | exact (unhide H).drewN _ | exact ((unhide H).drewN _).drewN _ | exact (unhide H).setN _ _ (by omega) | exact ((unhide H).drewN _).setN _ _ (by omega) | exact ((unhide H).setN _ _ (by omega)).drewN _) hL (by omega) (by decide) (by assumption)).mono ?_; rintro e w1 ⟨rfl, hR1, hO1⟩; have hR1 : RdAt w1 b L ((n) + 2) len dp := hR1; have H1 := hide hR1); (have HS := hide ((unhide HS).mine hO1 hb)) | (go_at_call 133; refine (hexNumber_any b L (n + 2) len dp a 4 _ (by first | exact unhide H1 | exact (unhide H1).drewN _ | exact ((unhide H1).drewN _).drewN _ | exact (unhide H1).setN _ _ (by omega) | exact ((unhide H1).drewN _).setN _ _ (by omega) | exact ((unhide H1).setN _ _ (by omega)).drewN _) (by first | exact unhide HS | exact (unhide HS).drewN _ | exact (unhide HS).mine ((Only.refl _ _).mine _ _) hb | exact (unhide HS).mine (((Only.refl _ _).drewN _).mine _ _) hb) hb hL (by omega) hF (by omega)).mono ?_; rintro e w2 ⟨hO2, hR2, hT2⟩; obtain rfl := told_yes hT2 hk; have H2 := hide hR2; have c12 := hR2.c1; have f12 := hR2.f1))
        all_goals first
          | (exfalso; exact hin ⟨by omega, by omega⟩)
          | (go_ret2; exact ⟨(hO1.trans hO2).mine _ _, .inr ⟨unhide hv, rfl, hR2.setN _ _ rfl⟩⟩)
    · have hv : Hid (Pro.lowV L len n = -1) := by
        unfold Pro.lowV; rw [if_neg (fun hh => hk hh.2.2.1)]; rfl
      clear hmm
      go_enter Tryz.func142, Tryz.ntmps142
      go_wp2_with (first | (go_at_call 71; refine (take_yes b L (n) len dp _ _ (by first | exact unhide H | exact (unhide H).drewN _ | exact ((unhide H).drewN _).drewN _ | exact (unhide H).setN _ _ (by omega) | exact ((unhide H).drewN _).setN _ _ (by omega) | exact ((unhide H).setN _ _ (by omega)).drewN _) hL (by omega) (by decide) (by assumption)).mono ?_; rintro e w1 ⟨rfl, hR1, hO1⟩; have hR1 : RdAt w1 b L ((n) + 2) len dp := hR1; have H1 := hide hR1); (have HS := hide ((unhide HS).mine hO1 hb)) | (go_at_call 133; refine (hexNumber_any b L (n + 2) len dp a 4 _ (by first | exact unhide H1 | exact (unhide H1).drewN _ | exact ((unhide H1).drewN _).drewN _ | exact (unhide H1).setN _ _ (by omega) | exact ((unhide H1).drewN _).setN _ _ (by omega) | exact ((unhide H1).setN _ _ (by omega)).drewN _) (by first | exact unhide HS | exact (unhide HS).drewN _ | exact (unhide HS).mine ((Only.refl _ _).mine _ _) hb | exact (unhide HS).mine (((Only.refl _ _).drewN _).mine _ _) hb) hb hL (by omega) hF (by omega)).mono ?_; rintro e w2 ⟨hO2, hR2, hT2⟩; obtain ⟨v2, rfl, hv2⟩ := told_no hT2 hk; obtain ⟨g2, hg2⟩ := hv2.form; subst hg2; have H2 := hide hR2; have c12 := hR2.c1; have f12 := hR2.f1))
      go_ret2
      exact ⟨(hO1.trans hO2).mine _ _, .inr ⟨unhide hv, rfl, hR2.setN _ _ rfl⟩⟩

theorem second_yes {v : Int} {x y z : Ending} {A B : Prop} (h : (0 ≤ v ∧ x = y ∧ A) ∨ (v = -1 ∧ x = z ∧ B)) (hv : 0 ≤ v) : x = y ∧ A := by
  rcases h with ⟨_, h⟩ | ⟨h, _⟩
  · exact h
  · omega
theorem second_no {v : Int} {x y z : Ending} {A B : Prop} (h : (0 ≤ v ∧ x = y ∧ A) ∨ (v = -1 ∧ x = z ∧ B)) (hv : ¬ 0 ≤ v) : x = z ∧ B := by
  rcases h with ⟨h, _⟩ | ⟨_, h⟩
  · exact absurd h hv
  · exact h

set_option maxHeartbeats 800000 in
theorem unicodeNumber_any (b : Nat) (L : List (Int × Int)) (n : Nat) (len dp : Int) (a : Nat → Addr) (w : World) (h : RdAt w b L n len dp) (hS : Sents w a) (hb : 10 ≤ b) (hL : L.length ≤ 400) (hn : n ≤ L.length) (hF : Pro.Fit L) :
    Calls Tryz.prog 135 #[.pointer (some ⟨b, 0, none⟩)] w (Tells b L len dp a w (Pro.unicodeO L len n) (.int .i32 (Pro.unicodeO L len n).v) (.int .i32 0)) := by
  have H := hide h
  have HS := hide hS
  clear h hS
  have hvb := Pro.hexO_v L len 4 0 n (by omega) (by decide) (by omega)
  have hnb := Pro.hexO_n L len 4 0 n (by omega)
  by_cases hk : (Pro.hexO L len 4 0 n).k = 0
  · by_cases hin : (Pro.hexO L len 4 0 n).v < 55296 ∨ 56319 < (Pro.hexO L len 4 0 n).v
    · have HO : Hid (Pro.unicodeO L len n = Pro.hexO L len 4 0 n) := by unfold Pro.unicodeO; rw [if_pos (.inr hin)]; rfl
      go_enter Tryz.func135, Tryz.ntmps135
      go_wp2_with (first | (go_at_call 133; refine (hexNumber_any b L n len dp a 4 _ (by first | exact unhide H | exact (unhide H).drewN _ | exact ((unhide H).drewN _).drewN _ | exact (unhide H).setN _ _ (by omega) | exact ((unhide H).drewN _).setN _ _ (by omega) | exact ((unhide H).setN _ _ (by omega)).drewN _) (by first | exact unhide HS | exact (unhide HS).drewN _ | exact (unhide HS).mine ((Only.refl _ _).mine _ _) hb | exact (unhide HS).mine (((Only.refl _ _).drewN _).mine _ _) hb) hb hL (by omega) hF (by omega)).mono ?_; rintro e w2 ⟨hO2, hR2, hT2⟩; obtain rfl := told_yes hT2 hk; have H2 := hide hR2; have c12 := hR2.c1; have f12 := hR2.f1))
      all_goals first
        | (exfalso; omega)
        | (go_ret2; rw [unhide HO]; exact ⟨hO2, hR2, .inl ⟨hk, rfl⟩⟩)
    · have hn4 := hnb.2.2 hk
      have hle4 : n + 4 ≤ L.length := by omega
      clear hnb
      by_cases hlow : 0 ≤ Pro.lowV L len (n + 4)
      · have HO : Hid (Pro.unicodeO L len n = Pro.good (65536 + ((Pro.hexO L len 4 0 n).v - 55296) * 1024 + (Pro.lowV L len (n + 4) - 56320)) (n + 4 + 6)) := by
          unfold Pro.unicodeO; rw [if_neg (by omega), hn4, if_pos hlow]; rfl
        have hlb := Pro.lowV_bd hlow
        go_enter Tryz.func135, Tryz.ntmps135
        go_wp2_with (first | (go_at_call 133; refine (hexNumber_any b L n len dp a 4 _ (by first | exact unhide H | exact (unhide H).drewN _ | exact ((unhide H).drewN _).drewN _ | exact (unhide H).setN _ _ (by omega) | exact ((unhide H).drewN _).setN _ _ (by omega) | exact ((unhide H).setN _ _ (by omega)).drewN _) (by first | exact unhide HS | exact (unhide HS).drewN _ | exact (unhide HS).mine ((Only.refl _ _).mine _ _) hb | exact (unhide HS).mine (((Only.refl _ _).drewN _).mine _ _) hb) hb hL (by omega) hF (by omega)).mono ?_; rintro e w2 ⟨hO2, hR2, hT2⟩; obtain rfl := told_yes hT2 hk; have H2 := hide hR2; have c12 := hR2.c1; have f12 := hR2.f1); (have HS := hide ((unhide HS).mine hO2 hb)) | (go_at_call 142; refine (secondHalf_any b L (n + 4) len dp a _ (by have := unhide H2; rw [hn4] at this; exact this) (unhide HS) hb hL (by omega) hF).mono ?_; rintro e w3 ⟨hO3, hT3⟩; obtain ⟨rfl, hR3⟩ := second_yes hT3 (by omega)))
        all_goals first
          | (exfalso; omega)
          | (go_ret2; exact told_good (unhide HO) (by rw [unhide HO]; rfl) (hO2.trans hO3) hR3)
      · have HO : Hid (Pro.unicodeO L len n = Pro.hexO L len 4 0 n) := by unfold Pro.unicodeO; rw [if_neg (by omega), hn4, if_neg hlow]; rfl
        go_enter Tryz.func135, Tryz.ntmps135
        go_wp2_with (first | (go_at_call 133; refine (hexNumber_any b L n len dp a 4 _ (by first | exact unhide H | exact (unhide H).drewN _ | exact ((unhide H).drewN _).drewN _ | exact (unhide H).setN _ _ (by omega) | exact ((unhide H).drewN _).setN _ _ (by omega) | exact ((unhide H).setN _ _ (by omega)).drewN _) (by first | exact unhide HS | exact (unhide HS).drewN _ | exact (unhide HS).mine ((Only.refl _ _).mine _ _) hb | exact (unhide HS).mine (((Only.refl _ _).drewN _).mine _ _) hb) hb hL (by omega) hF (by omega)).mono ?_; rintro e w2 ⟨hO2, hR2, hT2⟩; obtain rfl := told_yes hT2 hk; have H2 := hide hR2; have c12 := hR2.c1; have f12 := hR2.f1); (have HS := hide ((unhide HS).mine hO2 hb)) | (go_at_call 142; refine (secondHalf_any b L (n + 4) len dp a _ (by have := unhide H2; rw [hn4] at this; exact this) (unhide HS) hb hL (by omega) hF).mono ?_; rintro e w3 ⟨hO3, hT3⟩; obtain ⟨rfl, hR3⟩ := second_no hT3 (by omega)))
        all_goals first
          | (exfalso; omega)
          | (go_ret2; rw [unhide HO]; exact ⟨hO2.trans hO3, (by rw [hn4]; exact hR3), .inl ⟨hk, rfl⟩⟩)
  · have HO : Hid (Pro.unicodeO L len n = Pro.hexO L len 4 0 n) := by unfold Pro.unicodeO; rw [if_pos (.inl hk)]; rfl
    go_enter Tryz.func135, Tryz.ntmps135
    go_wp2_with (first | (go_at_call 133; refine (hexNumber_any b L n len dp a 4 _ (by first | exact unhide H | exact (unhide H).drewN _ | exact ((unhide H).drewN _).drewN _ | exact (unhide H).setN _ _ (by omega) | exact ((unhide H).drewN _).setN _ _ (by omega) | exact ((unhide H).setN _ _ (by omega)).drewN _) (by first | exact unhide HS | exact (unhide HS).drewN _ | exact (unhide HS).mine ((Only.refl _ _).mine _ _) hb | exact (unhide HS).mine (((Only.refl _ _).drewN _).mine _ _) hb) hb hL (by omega) hF (by omega)).mono ?_; rintro e w2 ⟨hO2, hR2, hT2⟩; obtain ⟨v2, rfl, hv2⟩ := told_no hT2 hk; obtain ⟨g2, hg2⟩ := hv2.form; subst hg2; have H2 := hide hR2; have c12 := hR2.c1; have f12 := hR2.f1))
    all_goals
      go_ret2
      rw [unhide HO]
      exact ⟨hO2, hR2, .inr ⟨hk, _, rfl, hv2⟩⟩
end Go.Proofs.YtdhmllobgijggaaGreatDoor
