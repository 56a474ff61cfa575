/- Parts in memory, as trees. The reader's trees hold numbers in range, and shorthands alone where shorthands stand. The rows of the reader's classes are not longer than the pattern. (Written by a program.) -/
import Derived.Test.YtfnkbmglodopkaaGreatDoorZParAParC
import Derived.Test.YtfnkbmglodopkaaGreatDoorZBaseSemD
import Derived.Test.YtfnkbmglodopkaaGreatDoorZProAProJ
import Derived.Test.YtfnkbmglodopkaaGreatDoorZProNProR
namespace Go.Proofs.YtfnkbmglodopkaaGreatDoor
section
open Go.RowKit
open Sm (Tree)
namespace Pro
def tAsr (a : Int) : Tree := ⟨0, a, 0, false, [], [], []⟩
def tAny : Tree := ⟨1, 0, 0, false, [], [], []⟩
def tChar (c : Int) : Tree := ⟨2, c, 0, false, [], [], []⟩
def tShort (c : Int) : Tree := ⟨3, c, 0, false, [], [], []⟩
def tCls (neg : Bool) (R : List (Int × Int)) (S : List Int) : Tree := ⟨4, 0, 0, neg, R, S, []⟩
def tAlt (ts : List Tree) : Tree := ⟨5, 0, 0, false, [], [], ts⟩
def tSeq (ts : List Tree) : Tree := ⟨6, 0, 0, false, [], [], ts⟩
def tRep (t : Tree) (l m : Int) : Tree := ⟨7, l, m, false, [], [], [t]⟩
section
variable (L : List (Int × Int)) (len : Int)
def asV (n : Nat) : Int := if letAt L n = 94 then 0 else if letAt L n = 36 then 1 else if letAt L (n + 1) = 98 then 2 else 3
def classX : Nat → Nat → List (Int × Int) → List Int → List (Int × Int) × List Int
 | 0, _, R, S => (R, S)
 | f + 1, n, R, S => if letAt L n = 93 then (R, S) else classX f (addO L len n).n (addR L len n R) (addS L len n S)
def classT (n : Nat) : Tree := tCls (decide (letAt L (n + 1) = 94)) (classX L len (L.length + 1 - n) (if letAt L (n + 1) = 94 then n + 2 else n + 1) [] []).1 (classX L len (L.length + 1 - n) (if letAt L (n + 1) = 94 then n + 2 else n + 1) [] []).2
def oneT (m : Bool) (c : Int) : Tree := match m with
 | true => tShort c
 | false => tChar c
def atomT (DT : Nat → Tree) (n : Nat) : Tree :=
 if letAt L n = 40 then DT n
 else if letAt L n = 91 then classT L len n
 else if letAt L n = 92 then oneT (setB (letAt L (n + 1))) (escO L len n).v
 else if letAt L n = 46 then tAny
 else tChar (letAt L n)
def termT (D : Nat → Out) (DT : Nat → Tree) (n : Nat) : Tree :=
 if asN L n ≠ 0 then tAsr (asV L n)
 else if (quantO L len (atomO L len D n).n).1 = false then atomT L len DT n
 else tRep (atomT L len DT n) (quantO L len (atomO L len D n).n).2.1.v (quantO L len (atomO L len D n).n).2.2
def termsT (D : Nat → Out) (DT : Nat → Tree) : Nat → List Tree → Nat → List Tree
 | 0, ts, _ => ts
 | f + 1, ts, n => if stopB L n = true then ts else termsT D DT f (ts ++ [termT L len D DT n]) (termO L len D n).n
def termsQ (D : Nat → Out) (DT : Nat → Tree) (n : Nat) : Tree := tSeq (termsT L len D DT (L.length + 1 - n) [] n)
def altT (D : Nat → Out) (DT : Nat → Tree) : Nat → List Tree → Nat → List Tree
 | 0, ts, _ => ts
 | f + 1, ts, n => if letAt L (termsP L len D n).n = 124 then altT D DT f (ts ++ [termsQ L len D DT n]) ((termsP L len D n).n + 1) else ts ++ [termsQ L len D DT n]
def altQ (D : Nat → Out) (DT : Nat → Tree) (n : Nat) : Tree := tAlt (altT L len D DT (L.length + 1 - n) [] n)
def deepT : Nat → Nat → Tree
 | 0, _ => tAny
 | r + 1, n => altQ L len (deepO L len r) (deepT r) (openO L len n).n
end
end Pro
def CellsAt (w : World) (A : Nat → Prop) (sv : Value) (n : Nat) (xs : List Value) : Prop :=
 (sv = .slice none 0 0 ∧ n = 0 ∧ xs = []) ∨ ∃ g cap, sv = .slice (some ⟨g, 0, none⟩) n cap ∧ A g ∧ n ≤ cap ∧ g < w.heap.size ∧ ∀ j x, xs[j]? = some x → w.cell? ⟨g, j, none⟩ = some x
theorem CellsAt.keep {P A : Nat → Prop} {w w' : World} {sv : Value} {n : Nat} {xs : List Value} (h : CellsAt w A sv n xs) (k : Only P w w') (hn : ∀ g, A g → ¬ P g) : CellsAt w' A sv n xs := by
 rcases h with h | ⟨g, cap, h1, h2, h3, h4, h5⟩
 · exact .inl h
 · exact .inr ⟨g, cap, h1, h2, h3, Nat.lt_of_lt_of_le h4 k.size, fun j x hj => (k.cell (World.block_lt_of_cell? w _ (h5 j x hj)) (hn g h2)).trans (h5 j x hj)⟩
theorem CellsAt.mono {A B : Nat → Prop} {w : World} {sv : Value} {n : Nat} {xs : List Value} (h : CellsAt w A sv n xs) (hAB : ∀ g, g < w.heap.size → A g → B g) : CellsAt w B sv n xs := by
 rcases h with h | ⟨g, cap, h1, h2, h3, h4, h5⟩
 · exact .inl h
 · exact .inr ⟨g, cap, h1, hAB g h4 h2, h3, h4, h5⟩
theorem cells_of {base k n : Nat} {w : World} {T : TypeId} {sv : Value} {xs : List Value} (h : w.ownsRow base T k sv n xs) (hx : n = 0 → xs = []) : CellsAt w (fun g => base ≤ g) sv n xs := by
 have hl := ownsRow_block h
 have hc := @World.ownsRow.cells w base T k sv n xs h
 rcases h.2 with ⟨rfl, h0⟩ | ⟨g, cap, cur, rfl, hb, hg, hn, _⟩
 · exact .inl ⟨rfl, h0, hx h0⟩
 · exact .inr ⟨g, cap, rfl, hb, hn, (hl g rfl).2, fun j x hj => by
     have := hc (g := g) rfl j x hj
     have e : (⟨g, 0, none⟩ : Addr).add j = ⟨g, j, none⟩ := by unfold Addr.add; split <;> simp_all
     rw [e] at this; exact this⟩
def LeafAt (w : World) (A : Nat → Prop) (v : Value) (t : Tree) : Prop :=
 (∃ c, t = Pro.tAsr c ∧ v = .iface 138 (.int .i64 c)) ∨
 (t = Pro.tAny ∧ v = .iface 205 (.agg #[])) ∨
 (∃ c, t = Pro.tChar c ∧ v = .iface 206 (.int .i32 c)) ∨
 (∃ c, t = Pro.tShort c ∧ v = .iface 207 (.int .i32 c)) ∨
 (∃ neg R S v1 v2, t = Pro.tCls neg R S ∧ v = .iface 211 (.agg #[.bool neg, v1, v2]) ∧ CellsAt w A v1 R.length (rangeCells R) ∧ CellsAt w A v2 S.length (manyCells S))
def PartAt : Nat → World → (Nat → Prop) → Value → Tree → Prop
 | 0, _, _, _, _ => False
 | f + 1, w, A, v, t =>
   LeafAt w A v t ∨
   (∃ sv xs ts, t = Pro.tAlt ts ∧ v = .iface 189 sv ∧ RowAt w A sv xs ∧ xs.length ≤ 1000 ∧ ts.length = xs.length ∧ (∀ (j : Nat) x t', xs[j]? = some x → ts[j]? = some t' → PartAt f w A x t') ∧ 0 < xs.length) ∨
   (∃ sv xs ts, t = Pro.tSeq ts ∧ v = .iface 213 sv ∧ RowAt w A sv xs ∧ xs.length ≤ 1000 ∧ ts.length = xs.length ∧ (∀ (j : Nat) x t', xs[j]? = some x → ts[j]? = some t' → PartAt f w A x t')) ∨
   (∃ p l m t', t = Pro.tRep t' l m ∧ v = .iface 215 (.agg #[p, .int .i64 l, .int .i64 m]) ∧ PartAt f w A p t' ∧ 0 ≤ l ∧ l ≤ 100 ∧ -1 ≤ m ∧ m ≤ 100 ∧ (m = -1 ∨ l ≤ m))
theorem LeafAt.keep {P A : Nat → Prop} {w w' : World} {v : Value} {t : Tree} (h : LeafAt w A v t) (k : Only P w w') (hn : ∀ g, A g → ¬ P g) : LeafAt w' A v t := by
 rcases h with h | h | h | h | ⟨neg, R, S, v1, v2, h1, h2, h3, h4⟩
 · exact .inl h
 · exact .inr (.inl h)
 · exact .inr (.inr (.inl h))
 · exact .inr (.inr (.inr (.inl h)))
 · exact .inr (.inr (.inr (.inr ⟨neg, R, S, v1, v2, h1, h2, h3.keep k hn, h4.keep k hn⟩)))
theorem LeafAt.mono {A B : Nat → Prop} {w : World} {v : Value} {t : Tree} (h : LeafAt w A v t) (hAB : ∀ g, g < w.heap.size → A g → B g) : LeafAt w B v t := by
 rcases h with h | h | h | h | ⟨neg, R, S, v1, v2, h1, h2, h3, h4⟩
 · exact .inl h
 · exact .inr (.inl h)
 · exact .inr (.inr (.inl h))
 · exact .inr (.inr (.inr (.inl h)))
 · exact .inr (.inr (.inr (.inr ⟨neg, R, S, v1, v2, h1, h2, h3.mono hAB, h4.mono hAB⟩)))
theorem PartAt.keep {P A : Nat → Prop} {w w' : World} (k : Only P w w') (hn : ∀ g, A g → ¬ P g) : ∀ (f : Nat) (v : Value) (t : Tree), PartAt f w A v t → PartAt f w' A v t
 | 0, _, _, h => h
 | f + 1, v, z, h => by
   rcases h with h | ⟨sv, xs, zs, e, h1, h2, h0, h3, h4, h5⟩ | ⟨sv, xs, zs, e, h1, h2, h0, h3, h4⟩ | ⟨p, l, m, z', e, h1, h2, h3⟩
   · exact .inl (h.keep k hn)
   · exact .inr (.inl ⟨sv, xs, zs, e, h1, h2.keep k hn, h0, h3, fun j x z' hx hz => PartAt.keep k hn f x z' (h4 j x z' hx hz), h5⟩)
   · exact .inr (.inr (.inl ⟨sv, xs, zs, e, h1, h2.keep k hn, h0, h3, fun j x z' hx hz => PartAt.keep k hn f x z' (h4 j x z' hx hz)⟩))
   · exact .inr (.inr (.inr ⟨p, l, m, z', e, h1, PartAt.keep k hn f p z' h2, h3⟩))
theorem PartAt.mono {A B : Nat → Prop} {w : World} (hAB : ∀ g, g < w.heap.size → A g → B g) : ∀ (f : Nat) (v : Value) (t : Tree), PartAt f w A v t → PartAt f w B v t
 | 0, _, _, h => h
 | f + 1, v, z, h => by
   rcases h with h | ⟨sv, xs, zs, e, h1, h2, h0, h3, h4, h5⟩ | ⟨sv, xs, zs, e, h1, h2, h0, h3, h4⟩ | ⟨p, l, m, z', e, h1, h2, h3⟩
   · exact .inl (h.mono hAB)
   · exact .inr (.inl ⟨sv, xs, zs, e, h1, h2.mono hAB, h0, h3, fun j x z' hx hz => PartAt.mono hAB f x z' (h4 j x z' hx hz), h5⟩)
   · exact .inr (.inr (.inl ⟨sv, xs, zs, e, h1, h2.mono hAB, h0, h3, fun j x z' hx hz => PartAt.mono hAB f x z' (h4 j x z' hx hz)⟩))
   · exact .inr (.inr (.inr ⟨p, l, m, z', e, h1, PartAt.mono hAB f p z' h2, h3⟩))
theorem PartAt.up {A : Nat → Prop} {w : World} : ∀ (f g : Nat) (v : Value) (t : Tree), f ≤ g → PartAt f w A v t → PartAt g w A v t
 | 0, _, _, _, _, h => h.elim
 | f + 1, 0, _, _, hg, _ => by omega
 | f + 1, g + 1, v, z, hg, h => by
   rcases h with h | ⟨sv, xs, zs, e, h1, h2, h0, h3, h4, h5⟩ | ⟨sv, xs, zs, e, h1, h2, h0, h3, h4⟩ | ⟨p, l, m, z', e, h1, h2, h3⟩
   · exact .inl h
   · exact .inr (.inl ⟨sv, xs, zs, e, h1, h2, h0, h3, fun j x z' hx hz => PartAt.up f g x z' (by omega) (h4 j x z' hx hz), h5⟩)
   · exact .inr (.inr (.inl ⟨sv, xs, zs, e, h1, h2, h0, h3, fun j x z' hx hz => PartAt.up f g x z' (by omega) (h4 j x z' hx hz)⟩))
   · exact .inr (.inr (.inr ⟨p, l, m, z', e, h1, PartAt.up f g p z' (by omega) h2, h3⟩))
theorem PartAt.leaf {w : World} {A : Nat → Prop} {v : Value} {t : Tree} (h : LeafAt w A v t) : PartAt 1 w A v t := .inl h
def Parts (f : Nat) (w : World) (A : Nat → Prop) (xs : List Value) (zs : List Tree) : Prop := zs.length = xs.length ∧ ∀ (j : Nat) x z', xs[j]? = some x → zs[j]? = some z' → PartAt f w A x z'
theorem Parts.append {f g : Nat} {w : World} {A : Nat → Prop} {xs : List Value} {zs : List Tree} {x : Value} {z : Tree} (h : Parts f w A xs zs) (hx : PartAt g w A x z) : Parts (max f g) w A (xs ++ [x]) (zs ++ [z]) := by
 refine ⟨by simp [h.1], ?_⟩
 intro j y z' hy hz
 by_cases hj : j < xs.length
 · rw [List.getElem?_append_left hj] at hy
   rw [List.getElem?_append_left (by rw [h.1]; exact hj)] at hz
   exact PartAt.up f _ _ _ (by omega) (h.2 j y z' hy hz)
 · rw [List.getElem?_append_right (by omega)] at hy
   rw [List.getElem?_append_right (by rw [h.1]; omega), h.1] at hz
   by_cases h0 : j - xs.length = 0
   · rw [h0] at hy hz
     simp at hy hz
     subst hy; subst hz
     exact PartAt.up g _ _ _ (by omega) hx
   · rw [List.getElem?_eq_none (by simp; omega)] at hy; cases hy
theorem Parts.keep {P A : Nat → Prop} {f : Nat} {w w' : World} {xs : List Value} {zs : List Tree} (h : Parts f w A xs zs) (k : Only P w w') (hn : ∀ g, A g → ¬ P g) : Parts f w' A xs zs := ⟨h.1, fun j x z hx hz => PartAt.keep k hn f x z (h.2 j x z hx hz)⟩
theorem Parts.mono {A B : Nat → Prop} {f : Nat} {w : World} {xs : List Value} {zs : List Tree} (h : Parts f w A xs zs) (hAB : ∀ g, g < w.heap.size → A g → B g) : Parts f w B xs zs := ⟨h.1, fun j x z hx hz => PartAt.mono hAB f x z (h.2 j x z hx hz)⟩
def GivesT (b : Nat) (L : List (Int × Int)) (len dp : Int) (a : Nat → Addr) (w : World) (o : Pro.Out) (t : Tree) (x : Ending) (w' : World) : Prop :=
 Only (Mine b) w w' ∧ RdAt w' b L o.n len dp ∧ ((o.k = 0 ∧ ∃ T y F, x = .returned (.tuple #[.iface T y, .nilIface]) ∧ PartAt F w' (fun g => w.heap.size ≤ g) (.iface T y) t) ∨
   (o.k ≠ 0 ∧ ∃ v, x = .returned (.tuple #[.nilIface, v]) ∧ FaultAt w' w.heap.size v (sentV a o.k) o.p))
theorem GivesT.good {b : Nat} {L : List (Int × Int)} {len dp : Int} {a : Nat → Addr} {w w' : World} {o : Pro.Out} {v : Int} {n : Nat} {T : TypeId} {y : Value} {F : Nat} {t : Tree} (ho : o = Pro.good v n) (hO : Only (Mine b) w w') (hR : RdAt w' b L n len dp) (hs : PartAt F w' (fun g => w.heap.size ≤ g) (.iface T y) t) : GivesT b L len dp a w o t (.returned (.tuple #[.iface T y, .nilIface])) w' := by
 subst ho; exact ⟨hO, hR, .inl ⟨rfl, T, y, F, rfl, hs⟩⟩
theorem GivesT.bad {b : Nat} {L : List (Int × Int)} {len dp : Int} {a : Nat → Addr} {w w' : World} {o : Pro.Out} {k : Nat} {p : Int} {n : Nat} {v : Value} {t : Tree} (ho : o = Pro.bad k p n) (hk : k ≠ 0) (hO : Only (Mine b) w w') (hR : RdAt w' b L n len dp) (hv : FaultAt w' w.heap.size v (sentV a k) p) : GivesT b L len dp a w o t (.returned (.tuple #[.nilIface, v])) w' := by
 subst ho; exact ⟨hO, hR, .inr ⟨hk, v, rfl, hv⟩⟩
theorem Tells.givesT {b : Nat} {L : List (Int × Int)} {len dp : Int} {a : Nat → Addr} {w w' : World} {o : Pro.Out} {T : TypeId} {y : Value} {x : Ending} {t : Tree} (h : Tells b L len dp a w o (.iface T y) .nilIface x w') (hT : o.k = 0 → LeafAt w' (fun g => w.heap.size ≤ g) (.iface T y) t) : GivesT b L len dp a w (Pro.one o) t x w' := by
 obtain ⟨hO, hR, h⟩ := h
 refine ⟨hO, by rw [Pro.one_n]; exact hR, ?_⟩
 rcases h with ⟨hk, hx⟩ | ⟨hk, v, hx, hv⟩
 · exact .inl ⟨by rw [Pro.one_k]; exact hk, T, y, 1, hx, PartAt.leaf (hT hk)⟩
 · have : Pro.one o = o := by unfold Pro.one; rw [if_neg hk]
   rw [this]; exact .inr ⟨hk, v, hx, hv⟩
theorem GivesT.pair {b : Nat} {L : List (Int × Int)} {len dp : Int} {a : Nat → Addr} {w w' : World} {o : Pro.Out} {t : Tree} {x : Ending} (h : GivesT b L len dp a w o t x w') : ∃ p q, x = .returned (.tuple #[p, q]) := by
 obtain ⟨_, _, ⟨_, T, y, F, hx, _⟩ | ⟨_, v, hx, _⟩⟩ := h
 · exact ⟨_, _, hx⟩
 · exact ⟨_, _, hx⟩
theorem GivesT.after {b : Nat} {L : List (Int × Int)} {len dp : Int} {a : Nat → Addr} {w w1 w' : World} {o : Pro.Out} {t : Tree} {x : Ending} (hO : Only (Mine b) w w1) (h : GivesT b L len dp a w1 o t x w') : GivesT b L len dp a w o t x w' := by
 obtain ⟨h1, h2, h3⟩ := h
 refine ⟨hO.trans h1, h2, ?_⟩
 rcases h3 with ⟨hk, T, y, F, hx, hs⟩ | ⟨hk, v, hx, hv⟩
 · exact .inl ⟨hk, T, y, F, hx, PartAt.mono (fun g _ hg => Nat.le_trans hO.size hg) F _ _ hs⟩
 · exact .inr ⟨hk, v, hx, hv.base hO.size⟩
theorem givesT_yes {b : Nat} {L : List (Int × Int)} {len dp : Int} {a : Nat → Addr} {w w' : World} {o : Pro.Out} {t : Tree} {x : Ending} (h : GivesT b L len dp a w o t x w') (hk : o.k = 0) : ∃ T y F, x = .returned (.tuple #[.iface T y, .nilIface]) ∧ PartAt F w' (fun g => w.heap.size ≤ g) (.iface T y) t ∧ Only (Mine b) w w' ∧ RdAt w' b L o.n len dp := by
 obtain ⟨h1, h2, ⟨_, T, y, F, hx, hs⟩ | ⟨h3, _⟩⟩ := h
 · exact ⟨T, y, F, hx, hs, h1, h2⟩
 · exact absurd hk h3
theorem givesT_no {b : Nat} {L : List (Int × Int)} {len dp : Int} {a : Nat → Addr} {w w' : World} {o : Pro.Out} {t : Tree} {x : Ending} (h : GivesT b L len dp a w o t x w') (hk : o.k ≠ 0) : ∃ g, x = .returned (.tuple #[.nilIface, .iface 124 (.pointer (some ⟨g, 0, none⟩))]) ∧ FaultAt w' w.heap.size (.iface 124 (.pointer (some ⟨g, 0, none⟩))) (sentV a o.k) o.p ∧ Only (Mine b) w w' ∧ RdAt w' b L o.n len dp := by
 obtain ⟨h1, h2, ⟨h3, _⟩ | ⟨_, v, hx, hv⟩⟩ := h
 · exact absurd h3 hk
 · obtain ⟨g, rfl⟩ := hv.form
   exact ⟨g, hx, hv, h1, h2⟩
end
section
open Sm (Tree)
namespace Pro
def nOK (v : Int) : Prop := -1 ≤ v ∧ v ≤ 1114111
def ShOK : Nat → Tree → Prop
 | 0, _ => True
 | f + 1, T => (T.kind = 2 → nOK T.a) ∧ (T.kind = 3 → setB T.a = true) ∧ (T.kind = 4 → (∀ r ∈ T.rs, nOK r.1 ∧ nOK r.2) ∧ ∀ s ∈ T.ss, setB s = true) ∧ ∀ t ∈ T.kids, ShOK f t
section
variable {L : List (Int × Int)} {len : Int}
theorem bad_v (k : Nat) (p : Int) (n : Nat) : nOK (bad k p n).v := by unfold nOK bad; simp
theorem hex_v {f : Nat} (hf : f ≤ 4) (n : Nat) : 0 ≤ (hexO L len f 0 n).v ∧ (hexO L len f 0 n).v ≤ 65535 :=
 hexO_v L len f 0 n (by omega) (by have : (0 : Int) < 16 ^ (4 - f) := Int.pow_pos (by omega); omega) hf
theorem bracedO_v : ∀ (f : Nat) (c : Int) (d n : Nat), 0 ≤ c → c ≤ 1114111 → nOK (bracedO L len f c d n).v
 | 0, c, d, n, h0, h1 => ⟨by show -1 ≤ c; omega, h1⟩
 | f + 1, c, d, n, h0, h1 => by
   unfold bracedO
   split
   · exact ⟨by show -1 ≤ c; omega, h1⟩
   · split
     · exact bad_v _ _ _
     · exact bracedO_v f _ _ _ (by omega) (by omega)
theorem unicodeO_v (n : Nat) : nOK (unicodeO L len n).v := by
 have h1 := hex_v (L := L) (len := len) (f := 4) (by omega) n
 have e : nOK (hexO L len 4 0 n).v := ⟨by omega, by omega⟩
 unfold unicodeO
 split
 · exact e
 · split
   · rename_i h2 h3
     have h4 : lowV L len (hexO L len 4 0 n).n ≤ 57343 ∧ (0 ≤ lowV L len (hexO L len 4 0 n).n → 56320 ≤ lowV L len (hexO L len 4 0 n).n) := by
       unfold lowV
       split
       · rename_i h5; exact ⟨h5.2.2.2.2, fun _ => h5.2.2.2.1⟩
       · exact ⟨by omega, fun h => by omega⟩
     unfold nOK good
     simp only
     omega
   · exact e
theorem numO_v (hF : Fit L) (n : Nat) : nOK (numO L len n).v := by
 have hl := hF n
 unfold numO
 split
 · unfold nOK good shortV ctlV
   simp only
   split
   · split <;> (try split) <;> (try split) <;> (try split) <;> (try split) <;> omega
   · omega
 · split
   · unfold zeroO; split
     · exact bad_v _ _ _
     · unfold nOK good; simp
   · split
     · unfold controlO; split
       · unfold nOK good; simp only; omega
       · exact bad_v _ _ _
     · split
       · have := hex_v (L := L) (len := len) (f := 2) (by omega) (n + 1)
         exact ⟨by omega, by omega⟩
       · split
         · exact bracedO_v _ _ _ _ (by omega) (by omega)
         · split
           · exact unicodeO_v _
           · exact bad_v _ _ _
theorem escO_v (hF : Fit L) (n : Nat) : nOK (escO L len n).v := by
 unfold escO
 split
 · exact hF (n + 1)
 · split
   · exact bad_v _ _ _
   · exact numO_v hF _
theorem escO_set {n : Nat} (h : setB (letAt L (n + 1)) = true) : (escO L len n).v = letAt L (n + 1) := by unfold escO; rw [if_pos h]; rfl
theorem memberO_v (hF : Fit L) (n : Nat) : nOK (memberO L len n).v := by
 unfold memberO
 split
 · unfold nOK good; simp
 · split
   · unfold nOK good; simp
   · split
     · exact escO_v hF n
     · exact hF n
theorem memberO_set {n : Nat} (h : many L n = true) : setB (memberO L len n).v = true := by
 unfold many at h
 rw [Bool.and_eq_true, decide_eq_true_eq] at h
 unfold memberO
 rw [if_neg (fun e => by rw [e.2] at h; exact absurd h.2 (by decide)), if_neg (fun e => by rw [e.2] at h; exact absurd h.2 (by decide)), if_pos h.1, escO_set h.2]
 exact h.2
theorem classX_ok (hF : Fit L) : ∀ (f n : Nat) (R : List (Int × Int)) (S : List Int), (∀ r ∈ R, nOK r.1 ∧ nOK r.2) → (∀ s ∈ S, setB s = true) → (∀ r ∈ (classX L len f n R S).1, nOK r.1 ∧ nOK r.2) ∧ ∀ s ∈ (classX L len f n R S).2, setB s = true
 | 0, _, _, _, h1, h2 => ⟨h1, h2⟩
 | f + 1, n, R, S, h1, h2 => by
   unfold classX
   split
   · exact ⟨h1, h2⟩
   · refine classX_ok hF f _ _ _ (fun r hr => ?_) (fun s hs => ?_)
     · unfold addR at hr
       split at hr
       · rcases List.mem_append.1 hr with hr | hr
         · exact h1 r hr
         · obtain rfl := List.mem_singleton.1 hr
           exact ⟨memberO_v hF _, memberO_v hF _⟩
       · split at hr
         · exact h1 r hr
         · rcases List.mem_append.1 hr with hr | hr
           · exact h1 r hr
           · obtain rfl := List.mem_singleton.1 hr
             exact ⟨memberO_v hF _, memberO_v hF _⟩
     · unfold addS at hs
       split at hs
       · exact h2 s hs
       · split at hs
         · rename_i hm
           rcases List.mem_append.1 hs with hs | hs
           · exact h2 s hs
           · obtain rfl := List.mem_singleton.1 hs
             exact memberO_set hm
         · exact h2 s hs
theorem sh_char {c : Int} (h : nOK c) : ∀ f, ShOK f (tChar c)
 | 0 => trivial
 | f + 1 => ⟨fun _ => h, fun e => by simp [tChar] at e, fun e => by simp [tChar] at e, fun t ht => by simp [tChar] at ht⟩
theorem sh_short {c : Int} (h : setB c = true) : ∀ f, ShOK f (tShort c)
 | 0 => trivial
 | f + 1 => ⟨fun e => by simp [tShort] at e, fun _ => h, fun e => by simp [tShort] at e, fun t ht => by simp [tShort] at ht⟩
theorem sh_any : ∀ f, ShOK f tAny
 | 0 => trivial
 | f + 1 => ⟨fun e => by simp [tAny] at e, fun e => by simp [tAny] at e, fun e => by simp [tAny] at e, fun t ht => by simp [tAny] at ht⟩
theorem sh_asr (a : Int) : ∀ f, ShOK f (tAsr a)
 | 0 => trivial
 | f + 1 => ⟨fun e => by simp [tAsr] at e, fun e => by simp [tAsr] at e, fun e => by simp [tAsr] at e, fun t ht => by simp [tAsr] at ht⟩
theorem sh_kids {T : Tree} (hk : 5 ≤ T.kind) (h : ∀ t ∈ T.kids, ∀ f, ShOK f t) : ∀ f, ShOK f T
 | 0 => trivial
 | f + 1 => ⟨fun e => by omega, fun e => by omega, fun e => by omega, fun t ht => h t ht f⟩
theorem classT_sh (hF : Fit L) (n : Nat) : ∀ f, ShOK f (classT L len n)
 | 0 => trivial
 | f + 1 => ⟨fun e => by simp [classT, tCls] at e, fun e => by simp [classT, tCls] at e, fun _ => classX_ok hF _ _ [] [] (by simp) (by simp), fun t ht => by simp [classT, tCls] at ht⟩
theorem atomT_sh (hF : Fit L) {DT : Nat → Tree} (hD : ∀ n f, ShOK f (DT n)) (n f : Nat) : ShOK f (atomT L len DT n) := by
 unfold atomT
 split
 · exact hD n f
 · split
   · exact classT_sh hF n f
   · split
     · unfold oneT
       split
       · rename_i h
         have := escO_set (L := L) (len := len) h
         rw [this]
         exact sh_short h f
       · exact sh_char (escO_v hF n) f
     · split
       · exact sh_any f
       · exact sh_char (hF n) f
theorem termT_sh (hF : Fit L) {D : Nat → Out} {DT : Nat → Tree} (hD : ∀ n f, ShOK f (DT n)) (n f : Nat) : ShOK f (termT L len D DT n) := by
 unfold termT
 split
 · exact sh_asr _ f
 · split
   · exact atomT_sh hF hD n f
   · refine sh_kids (by simp [tRep]) (fun t ht f => ?_) f
     obtain rfl : t = atomT L len DT n := by simpa [tRep] using ht
     exact atomT_sh hF hD n f
theorem termsT_sh (hF : Fit L) {D : Nat → Out} {DT : Nat → Tree} (hD : ∀ n f, ShOK f (DT n)) : ∀ (g : Nat) (ts : List Tree) (n : Nat), (∀ t ∈ ts, ∀ f, ShOK f t) → ∀ t ∈ termsT L len D DT g ts n, ∀ f, ShOK f t
 | 0, _, _, h => h
 | g + 1, ts, n, h => by
   unfold termsT
   split
   · exact h
   · refine termsT_sh hF hD g _ _ (fun t ht => ?_)
     rcases List.mem_append.1 ht with ht | ht
     · exact h t ht
     · obtain rfl := List.mem_singleton.1 ht
       exact fun f => termT_sh hF hD n f
theorem termsQ_sh (hF : Fit L) {D : Nat → Out} {DT : Nat → Tree} (hD : ∀ n f, ShOK f (DT n)) (n f : Nat) : ShOK f (termsQ L len D DT n) :=
 sh_kids (by simp [termsQ, tSeq]) (termsT_sh hF hD _ [] n (by simp)) f
theorem altT_sh (hF : Fit L) {D : Nat → Out} {DT : Nat → Tree} (hD : ∀ n f, ShOK f (DT n)) : ∀ (g : Nat) (ts : List Tree) (n : Nat), (∀ t ∈ ts, ∀ f, ShOK f t) → ∀ t ∈ altT L len D DT g ts n, ∀ f, ShOK f t
 | 0, _, _, h => h
 | g + 1, ts, n, h => by
   have h2 : ∀ t ∈ ts ++ [termsQ L len D DT n], ∀ f, ShOK f t := fun t ht => by
     rcases List.mem_append.1 ht with ht | ht
     · exact h t ht
     · obtain rfl := List.mem_singleton.1 ht
       exact fun f => termsQ_sh hF hD n f
   unfold altT
   split
   · exact altT_sh hF hD g _ _ h2
   · exact h2
theorem altQ_sh (hF : Fit L) {D : Nat → Out} {DT : Nat → Tree} (hD : ∀ n f, ShOK f (DT n)) (n f : Nat) : ShOK f (altQ L len D DT n) :=
 sh_kids (by simp [altQ, tAlt]) (altT_sh hF hD _ [] n (by simp)) f
theorem deepT_sh (hF : Fit L) : ∀ (r n f : Nat), ShOK f (deepT L len r n)
 | 0, _, f => sh_any f
 | r + 1, _, f => altQ_sh hF (fun n f => deepT_sh hF r n f) _ f
theorem whole_sh (hF : Fit L) (r n f : Nat) : ShOK f (altQ L len (deepO L len r) (deepT L len r) n) := altQ_sh hF (fun n f => deepT_sh hF r n f) n f
end
end Pro
namespace Pro
def LnOK : Nat → Tree → Prop
 | 0, _ => True
 | f + 1, T => (T.kind = 4 → T.rs.length ≤ 1000 ∧ T.ss.length ≤ 1000) ∧ ∀ t ∈ T.kids, LnOK f t
section
variable {L : List (Int × Int)} {len : Int}
theorem addR_ln (n : Nat) (R : List (Int × Int)) : (addR L len n R).length ≤ R.length + 1 := by
 unfold addR
 split
 · simp
 · split <;> simp
theorem addS_ln (n : Nat) (S : List Int) : (addS L len n S).length ≤ S.length + 1 := by
 unfold addS
 split
 · simp
 · split <;> simp
theorem classX_ln : ∀ (f n : Nat) (R : List (Int × Int)) (S : List Int), (classX L len f n R S).1.length ≤ R.length + f ∧ (classX L len f n R S).2.length ≤ S.length + f
 | 0, _, R, S => ⟨Nat.le_refl _, Nat.le_refl _⟩
 | f + 1, n, R, S => by
   unfold classX
   split
   · exact ⟨Nat.le_add_right _ _, Nat.le_add_right _ _⟩
   · have h1 := addR_ln (L := L) (len := len) n R
     have h2 := addS_ln (L := L) (len := len) n S
     have h3 := classX_ln f (addO L len n).n (addR L len n R) (addS L len n S)
     omega
theorem ln_char (c : Int) : ∀ f, LnOK f (tChar c)
 | 0 => trivial
 | f + 1 => ⟨fun e => by simp [tChar] at e, fun t ht => by simp [tChar] at ht⟩
theorem ln_short (c : Int) : ∀ f, LnOK f (tShort c)
 | 0 => trivial
 | f + 1 => ⟨fun e => by simp [tShort] at e, fun t ht => by simp [tShort] at ht⟩
theorem ln_any : ∀ f, LnOK f tAny
 | 0 => trivial
 | f + 1 => ⟨fun e => by simp [tAny] at e, fun t ht => by simp [tAny] at ht⟩
theorem ln_asr (a : Int) : ∀ f, LnOK f (tAsr a)
 | 0 => trivial
 | f + 1 => ⟨fun e => by simp [tAsr] at e, fun t ht => by simp [tAsr] at ht⟩
theorem ln_kids {T : Tree} (hk : 5 ≤ T.kind) (h : ∀ t ∈ T.kids, ∀ f, LnOK f t) : ∀ f, LnOK f T
 | 0 => trivial
 | f + 1 => ⟨fun e => by omega, fun t ht => h t ht f⟩
theorem classT_ln (hL : L.length ≤ 400) (n : Nat) : ∀ f, LnOK f (classT L len n)
 | 0 => trivial
 | f + 1 => ⟨fun _ => by
     have := classX_ln (L := L) (len := len) (L.length + 1 - n) (if letAt L (n + 1) = 94 then n + 2 else n + 1) [] []
     simp only [List.length_nil] at this
     simp only [classT, tCls]
     omega, fun t ht => by simp [classT, tCls] at ht⟩
theorem atomT_ln (hL : L.length ≤ 400) {DT : Nat → Tree} (hD : ∀ n f, LnOK f (DT n)) (n f : Nat) : LnOK f (atomT L len DT n) := by
 unfold atomT
 split
 · exact hD n f
 · split
   · exact classT_ln hL n f
   · split
     · unfold oneT
       split
       · exact ln_short _ f
       · exact ln_char _ f
     · split
       · exact ln_any f
       · exact ln_char _ f
theorem termT_ln (hL : L.length ≤ 400) {D : Nat → Out} {DT : Nat → Tree} (hD : ∀ n f, LnOK f (DT n)) (n f : Nat) : LnOK f (termT L len D DT n) := by
 unfold termT
 split
 · exact ln_asr _ f
 · split
   · exact atomT_ln hL hD n f
   · refine ln_kids (by simp [tRep]) (fun t ht f => ?_) f
     obtain rfl : t = atomT L len DT n := by simpa [tRep] using ht
     exact atomT_ln hL hD n f
theorem termsT_ln (hL : L.length ≤ 400) {D : Nat → Out} {DT : Nat → Tree} (hD : ∀ n f, LnOK f (DT n)) : ∀ (g : Nat) (ts : List Tree) (n : Nat), (∀ t ∈ ts, ∀ f, LnOK f t) → ∀ t ∈ termsT L len D DT g ts n, ∀ f, LnOK f t
 | 0, _, _, h => h
 | g + 1, ts, n, h => by
   unfold termsT
   split
   · exact h
   · refine termsT_ln hL hD g _ _ (fun t ht => ?_)
     rcases List.mem_append.1 ht with ht | ht
     · exact h t ht
     · obtain rfl := List.mem_singleton.1 ht
       exact fun f => termT_ln hL hD n f
theorem termsQ_ln (hL : L.length ≤ 400) {D : Nat → Out} {DT : Nat → Tree} (hD : ∀ n f, LnOK f (DT n)) (n f : Nat) : LnOK f (termsQ L len D DT n) :=
 ln_kids (by simp [termsQ, tSeq]) (termsT_ln hL hD _ [] n (by simp)) f
theorem altT_ln (hL : L.length ≤ 400) {D : Nat → Out} {DT : Nat → Tree} (hD : ∀ n f, LnOK f (DT n)) : ∀ (g : Nat) (ts : List Tree) (n : Nat), (∀ t ∈ ts, ∀ f, LnOK f t) → ∀ t ∈ altT L len D DT g ts n, ∀ f, LnOK f t
 | 0, _, _, h => h
 | g + 1, ts, n, h => by
   have h2 : ∀ t ∈ ts ++ [termsQ L len D DT n], ∀ f, LnOK f t := fun t ht => by
     rcases List.mem_append.1 ht with ht | ht
     · exact h t ht
     · obtain rfl := List.mem_singleton.1 ht
       exact fun f => termsQ_ln hL hD n f
   unfold altT
   split
   · exact altT_ln hL hD g _ _ h2
   · exact h2
theorem altQ_ln (hL : L.length ≤ 400) {D : Nat → Out} {DT : Nat → Tree} (hD : ∀ n f, LnOK f (DT n)) (n f : Nat) : LnOK f (altQ L len D DT n) :=
 ln_kids (by simp [altQ, tAlt]) (altT_ln hL hD _ [] n (by simp)) f
theorem deepT_ln (hL : L.length ≤ 400) : ∀ (r n f : Nat), LnOK f (deepT L len r n)
 | 0, _, f => ln_any f
 | r + 1, _, f => altQ_ln hL (fun n f => deepT_ln hL r n f) _ f
theorem whole_ln (hL : L.length ≤ 400) (r n f : Nat) : LnOK f (altQ L len (deepO L len r) (deepT L len r) n) := altQ_ln hL (fun n f => deepT_ln hL r n f) n f
end
end Pro
end
end Go.Proofs.YtfnkbmglodopkaaGreatDoor
