/- Worlds that differ in named blocks alone, and a lexer's four cells. No translation is named here. Patterns as trees, what they match, and programs of steps that match the same: plain, no translation is named. The program of a tree, as the code builds it, matches what the tree matches. The program of a whole tree. Runs of a program, character by character. -/
import Derived.WalkKit
import Derived.WalkSpells
import Derived.WalkLawsBesides
import Derived.Deep.QuietTactic
import Derived.BigQuiet
import Derived.Deep.RegionWith
namespace Go.Proofs.YtnagphodmfejiaaGreatDoor
open Go.RowKit
theorem hide {p : Prop} (h : p) : Hid p := h
theorem unhide {p : Prop} (h : Hid p) : p := h
structure Only (P : Nat → Prop) (w w' : World) : Prop where
 os : w'.os = w.os
 tape : w'.tape = w.tape
 output : w'.output = w.output
 size : w.heap.size ≤ w'.heap.size
 block : ∀ k, k < w.heap.size → ¬ P k → w'.heap[k]? = w.heap[k]?
theorem Only.refl (P : Nat → Prop) (w : World) : Only P w w := ⟨rfl, rfl, rfl, Nat.le_refl _, fun _ _ _ => rfl⟩
theorem Only.trans {P : Nat → Prop} {a b c : World} (h : Only P a b) (k : Only P b c) : Only P a c :=
 ⟨k.os.trans h.os, k.tape.trans h.tape, k.output.trans h.output, Nat.le_trans h.size k.size, fun i hi hp => (k.block i (Nat.lt_of_lt_of_le hi h.size) hp).trans (h.block i hi hp)⟩
theorem Only.mono {P Q : Nat → Prop} {a b : World} (h : Only P a b) (hPQ : ∀ k, k < a.heap.size → P k → Q k) : Only Q a b :=
 ⟨h.os, h.tape, h.output, h.size, fun i hi hq => h.block i hi (fun hp => hq (hPQ i hi hp))⟩
theorem Only.drew {P : Nat → Prop} {a w : World} (h : Only P a w) : Only P a w.drew := ⟨h.os, h.tape, h.output, h.size, h.block⟩
theorem Only.drewN {P : Nat → Prop} {a w : World} (h : Only P a w) (n : Nat) : Only P a (w.drewN n) := ⟨h.os, h.tape, h.output, h.size, h.block⟩
theorem Only.alloc {P : Nat → Prop} {a w : World} (h : Only P a w) (o : Obj) : Only P a (w.alloc o) :=
 ⟨h.os, h.tape, h.output, Nat.le_trans h.size (by simp), fun k hk hp => (Below.heap_alloc _ _ _ (Nat.lt_of_lt_of_le hk h.size)).trans (h.block k hk hp)⟩
theorem Only.setCell {P : Nat → Prop} {a w : World} (h : Only P a w) {p : Addr} (hp : P p.block ∨ a.heap.size ≤ p.block) (u : Value) : Only P a (w.setCell p u) :=
 ⟨h.os, h.tape, h.output, Nat.le_trans h.size (by simp [World.setCell]), fun k hk hn => (Below.heap_setCell _ _ _ _ (by
   rintro rfl
   rcases hp with hp | hp
   · exact hn hp
   · omega)).trans (h.block k hk hn)⟩
theorem Only.grown {P : Nat → Prop} {a w w' : World} {row : Option Nat} (h : Only P a w) (hg : w.grownBy w' row) (hr : ∀ k, row = some k → P k ∨ a.heap.size ≤ k) : Only P a w' :=
 ⟨hg.os.trans h.os, hg.tape.trans h.tape, hg.output.trans h.output, Nat.le_trans h.size hg.size, fun k hk hn => (hg.block k (Nat.lt_of_lt_of_le hk h.size) (fun e => by
   rcases hr k e.symm with hp | hp
   · exact hn hp
   · omega)).trans (h.block k hk hn)⟩
theorem Only.cell {P : Nat → Prop} {w w' : World} (h : Only P w w') {p : Addr} (hp : p.block < w.heap.size) (hn : ¬ P p.block) : w'.cell? p = w.cell? p := World.cell?_of_block (w := w) (h.block p.block hp hn)
theorem Only.frozen {P : Nat → Prop} {w w' : World} (h : Only P w w') {p : Addr} (hp : p.block < w.heap.size) (hn : ¬ P p.block) : w'.frozen? p = w.frozen? p := World.frozen?_of_block (w := w) (h.block p.block hp hn)
theorem Only.below {w w' : World} (h : Only (fun _ => False) w w') : Below w.heap.size w w' := ⟨h.os, h.tape, h.output, h.size, fun k hk => h.block k hk (fun f => f)⟩
theorem Only.ofBelow {P : Nat → Prop} {w w' : World} (h : Below w.heap.size w w') : Only P w w' := ⟨h.os, h.tape, h.output, h.size, fun k hk _ => h.block k hk⟩
structure LexAt (w : World) (b : Nat) (s : ByteArray) (i e at' : Int) : Prop where
 c0 : w.cell? ⟨b, 0, none⟩ = some (.string s)
 c1 : w.cell? ⟨b, 1, none⟩ = some (.int .i64 i)
 c2 : w.cell? ⟨b, 2, none⟩ = some (.int .i64 e)
 c3 : w.cell? ⟨b, 3, none⟩ = some (.int .i64 at')
 f1 : w.frozen? ⟨b, 1, none⟩ = false
 f2 : w.frozen? ⟨b, 2, none⟩ = false
 f3 : w.frozen? ⟨b, 3, none⟩ = false
theorem LexAt.lt {w : World} {b : Nat} {s : ByteArray} {i e a : Int} (h : LexAt w b s i e a) : b < w.heap.size := World.block_lt_of_cell? w ⟨b, 0, none⟩ h.c0
theorem LexAt.keep {P : Nat → Prop} {w w' : World} {b : Nat} {s : ByteArray} {i e a : Int} (h : LexAt w b s i e a) (k : Only P w w') (hn : ¬ P b) : LexAt w' b s i e a :=
 ⟨(k.cell (p := ⟨b, 0, none⟩) h.lt hn).trans h.c0, (k.cell (p := ⟨b, 1, none⟩) h.lt hn).trans h.c1, (k.cell (p := ⟨b, 2, none⟩) h.lt hn).trans h.c2, (k.cell (p := ⟨b, 3, none⟩) h.lt hn).trans h.c3,
  (k.frozen (p := ⟨b, 1, none⟩) h.lt hn).trans h.f1, (k.frozen (p := ⟨b, 2, none⟩) h.lt hn).trans h.f2, (k.frozen (p := ⟨b, 3, none⟩) h.lt hn).trans h.f3⟩
theorem frozen_setCell (w : World) (a p : Addr) (u : Value) : (w.setCell a u).frozen? p = w.frozen? p := by simp
theorem LexAt.setI {w : World} {b : Nat} {s : ByteArray} {i e a : Int} (h : LexAt w b s i e a) (j : Int) : LexAt (w.setCell ⟨b, 1, none⟩ (.int .i64 j)) b s j e a :=
 ⟨(World.cell?_setCell_other _ _ _ _ (by simp)).trans h.c0, World.cell?_setCell_same _ _ _ h.c1, (World.cell?_setCell_other _ _ _ _ (by simp)).trans h.c2, (World.cell?_setCell_other _ _ _ _ (by simp)).trans h.c3,
  (frozen_setCell _ _ _ _).trans h.f1, (frozen_setCell _ _ _ _).trans h.f2, (frozen_setCell _ _ _ _).trans h.f3⟩
theorem LexAt.setE {w : World} {b : Nat} {s : ByteArray} {i e a : Int} (h : LexAt w b s i e a) (j : Int) : LexAt (w.setCell ⟨b, 2, none⟩ (.int .i64 j)) b s i j a :=
 ⟨(World.cell?_setCell_other _ _ _ _ (by simp)).trans h.c0, (World.cell?_setCell_other _ _ _ _ (by simp)).trans h.c1, World.cell?_setCell_same _ _ _ h.c2, (World.cell?_setCell_other _ _ _ _ (by simp)).trans h.c3,
  (frozen_setCell _ _ _ _).trans h.f1, (frozen_setCell _ _ _ _).trans h.f2, (frozen_setCell _ _ _ _).trans h.f3⟩
theorem LexAt.setA {w : World} {b : Nat} {s : ByteArray} {i e a : Int} (h : LexAt w b s i e a) (j : Int) : LexAt (w.setCell ⟨b, 3, none⟩ (.int .i64 j)) b s i e j :=
 ⟨(World.cell?_setCell_other _ _ _ _ (by simp)).trans h.c0, (World.cell?_setCell_other _ _ _ _ (by simp)).trans h.c1, (World.cell?_setCell_other _ _ _ _ (by simp)).trans h.c2, World.cell?_setCell_same _ _ _ h.c3,
  (frozen_setCell _ _ _ _).trans h.f1, (frozen_setCell _ _ _ _).trans h.f2, (frozen_setCell _ _ _ _).trans h.f3⟩
theorem LexAt.drewN {w : World} {b : Nat} {s : ByteArray} {i e a : Int} (h : LexAt w b s i e a) (n : Nat) : LexAt (w.drewN n) b s i e a :=
 h.keep ((Only.refl (fun _ => False) w).drewN n) (fun f => f)
def Mine (b : Nat) (k : Nat) : Prop := k = b
theorem Only.mine {b : Nat} {a w : World} (h : Only (Mine b) a w) (off : Nat) (u : Value) : Only (Mine b) a (w.setCell ⟨b, off, none⟩ u) := h.setCell (p := ⟨b, off, none⟩) (Or.inl (show b = b from rfl)) u
def byteAt (s : ByteArray) (k : Nat) : Int := if h : k < s.size then (s[k].toNat : Int) else -1
theorem byteAt_lo (s : ByteArray) (k : Nat) : -1 ≤ byteAt s k := by unfold byteAt; split <;> omega
theorem byteAt_hi (s : ByteArray) (k : Nat) : byteAt s k ≤ 255 := by
 unfold byteAt; split
 · rename_i h; have := (s[k]).toNat_lt; omega
 · omega
theorem byteAt_in (s : ByteArray) (k : Nat) (h : k < s.size) : byteAt s k = (s[k].toNat : Int) := by unfold byteAt; rw [dif_pos h]
theorem byteAt_out (s : ByteArray) (k : Nat) (h : s.size ≤ k) : byteAt s k = -1 := by unfold byteAt; rw [dif_neg (by omega)]
theorem byteAt_nonneg (s : ByteArray) (k : Nat) : 0 ≤ byteAt s k ↔ k < s.size := by
 constructor
 · intro h; by_cases hk : k < s.size
   · exact hk
   · rw [byteAt_out s k (by omega)] at h; omega
 · intro h; rw [byteAt_in s k h]; omega
theorem byte_wrap (n : UInt8) : wrap64 (n.toNat : Int) = (n.toNat : Int) := by
 have := n.toNat_lt
 unfold wrap64; omega
structure St where
 i : Nat
 e : Int
 a : Int
def Lex (w : World) (b : Nat) (s : ByteArray) (st : St) : Prop := LexAt w b s st.i st.e st.a
def St.fail (st : St) (e' a' : Int) : St := if st.e = 0 then ⟨st.i, e', a'⟩ else st
def St.go (st : St) (n : Nat) : St := ⟨st.i + n, st.e, st.a⟩
end Go.Proofs.YtnagphodmfejiaaGreatDoor
namespace Go.Proofs.YtnagphodmfejiaaGreatDoor
namespace Sm
structure Tree where
 kind : Nat
 a : Int
 b : Int
 neg : Bool
 rs : List (Int × Int)
 ss : List Int
 kids : List Tree
def Tree.kid (T : Tree) : Tree := match T.kids with | [] => T | t :: _ => t
section
variable (R : Nat → Nat → Prop)
def pow : Nat → Nat → Nat → Prop
 | 0, i, j => i = j
 | k + 1, i, j => ∃ m, R i m ∧ pow k m j
end
def chain (X : Tree → Nat → Nat → Prop) : List Tree → Nat → Nat → Prop
 | [], i, j => i = j
 | t :: ts, i, j => ∃ m, X t i m ∧ chain X ts m j
variable (lf : Tree → Nat → Prop) (ah : Int → Nat → Prop)
def M : Nat → Tree → Nat → Nat → Prop
 | 0, _, _, _ => False
 | f + 1, T, i, j =>
   if T.kind = 0 then i = j ∧ ah T.a i
   else if T.kind = 5 then ∃ t ∈ T.kids, M f t i j
   else if T.kind = 6 then chain (M f) T.kids i j
   else if T.kind = 7 then ∃ k : Nat, T.a ≤ k ∧ (T.b = -1 ∨ (k : Int) ≤ T.b) ∧ pow (M f T.kid) k i j
   else lf T i ∧ j = i + 1
def WF : Nat → Tree → Prop
 | 0, _ => False
 | f + 1, T => (T.kind = 5 → T.kids ≠ []) ∧ (T.kind = 5 ∨ T.kind = 6 → ∀ t ∈ T.kids, WF f t) ∧ (T.kind = 7 → WF f T.kid ∧ 0 ≤ T.a ∧ (T.b = -1 ∨ T.a ≤ T.b))
structure Stp where
 kind : Nat
 leaf : Tree
 asr : Int
 next : Nat
 other : Nat
def noTree : Tree := ⟨1, 0, 0, false, [], [], []⟩
def finish : Stp := ⟨0, noTree, 0, 0, 0⟩
def taker (T : Tree) (nx : Nat) : Stp := ⟨1, T, 0, nx, 0⟩
def tester (a : Int) (nx : Nat) : Stp := ⟨2, noTree, a, nx, 0⟩
def forker (x y : Nat) : Stp := ⟨3, noTree, 0, x, y⟩
def one (N : List Stp) (p i q j : Nat) : Prop := ∃ s, N[p]? = some s ∧ ((s.kind = 1 ∧ lf s.leaf i ∧ q = s.next ∧ j = i + 1) ∨ (s.kind = 2 ∧ ah s.asr i ∧ q = s.next ∧ j = i) ∨ (s.kind = 3 ∧ (q = s.next ∨ q = s.other) ∧ j = i))
def Run (N : List Stp) : Nat → Nat → Nat → Nat → Nat → Prop
 | 0, p, i, q, j => p = q ∧ i = j
 | k + 1, p, i, q, j => ∃ p' i', one lf ah N p i p' i' ∧ Run N k p' i' q j
def Goes (N : List Stp) (p i q j : Nat) : Prop := ∃ k, Run lf ah N k p i q j
variable {lf ah}
variable (lf ah)
def Right (R : Nat → Nat → Prop) (b nx lo hi : Nat) (N : List Stp) : Prop :=
 (∀ i j, R i j → Goes lf ah N b i nx j) ∧ ∀ k q i j, ¬ (lo ≤ q ∧ q < hi) → Run lf ah N k b i q j → ∃ m k', k' ≤ k ∧ R i m ∧ Run lf ah N k' nx m q j
variable {lf ah}
end Sm
end Go.Proofs.YtnagphodmfejiaaGreatDoor
namespace Go.Proofs.YtnagphodmfejiaaGreatDoor
namespace Sm
section
variable (B : Tree → Nat → List Stp → Nat × List Stp)
def bChoice (nx : Nat) : List Tree → Nat → List Stp → Nat × List Stp
 | [], b, S => (b, S)
 | t :: ts, b, S => bChoice nx ts (B t nx S).2.length ((B t nx S).2 ++ [forker b (B t nx S).1])
def bSeq : List Tree → Nat → List Stp → Nat × List Stp
 | [], b, S => (b, S)
 | t :: ts, b, S => bSeq ts (B t b S).1 (B t b S).2
def bOpt (t : Tree) (nx : Nat) : Nat → Nat → List Stp → Nat × List Stp
 | 0, b, S => (b, S)
 | k + 1, b, S => bOpt t nx k (B t b S).2.length ((B t b S).2 ++ [forker (B t b S).1 nx])
def bTimes (t : Tree) : Nat → Nat → List Stp → Nat × List Stp
 | 0, b, S => (b, S)
 | k + 1, b, S => if (B t b S).1 = b then B t b S else bTimes t k (B t b S).1 (B t b S).2
def bBody (t : Tree) (nx : Nat) (S : List Stp) : Nat × List Stp :=
 ((B t S.length (S ++ [forker 0 nx])).1, (B t S.length (S ++ [forker 0 nx])).2.set S.length (forker (B t S.length (S ++ [forker 0 nx])).1 nx))
end
def bld : Nat → Tree → Nat → List Stp → Nat × List Stp
 | 0, _, nx, S => (nx, S)
 | f + 1, T, nx, S =>
   if T.kind = 0 then (S.length, S ++ [tester T.a nx])
   else if T.kind = 5 then
     match T.kids with
     | [] => (nx, S)
     | t :: ts => bChoice (bld f) nx ts (bld f t nx S).1 (bld f t nx S).2
   else if T.kind = 6 then bSeq (bld f) T.kids.reverse nx S
   else if T.kind = 7 then
     if T.b = -1 then
       if T.a = 0 then (S.length, (bBody (bld f) T.kid nx S).2)
       else bTimes (bld f) T.kid (T.a - 1).toNat (bBody (bld f) T.kid nx S).1 (bBody (bld f) T.kid nx S).2
     else bTimes (bld f) T.kid T.a.toNat (bOpt (bld f) T.kid nx (T.b - T.a).toNat nx S).1 (bOpt (bld f) T.kid nx (T.b - T.a).toNat nx S).2
   else (S.length, S ++ [taker T nx])
variable (lf : Tree → Nat → Prop) (ah : Int → Nat → Prop)
structure Built (R : Nat → Nat → Prop) (nx : Nat) (S : List Stp) (r : Nat × List Stp) : Prop where
 le : S.length ≤ r.2.length
 old : ∀ k, k < S.length → r.2[k]? = S[k]?
 at' : (r.1 = nx ∧ r.2.length = S.length) ∨ (S.length ≤ r.1 ∧ r.1 < r.2.length)
 fit : ∀ k s, S.length ≤ k → r.2[k]? = some s → s.next < r.2.length ∧ s.other < r.2.length
 right : ∀ N : List Stp, (∀ k, S.length ≤ k → k < r.2.length → N[k]? = r.2[k]?) → Right lf ah R r.1 nx S.length r.2.length N
variable {lf ah}
end Sm
end Go.Proofs.YtnagphodmfejiaaGreatDoor
namespace Go.Proofs.YtnagphodmfejiaaGreatDoor
namespace Sm
variable {lf : Tree → Nat → Prop} {ah : Int → Nat → Prop}
def BOK (lf : Tree → Nat → Prop) (ah : Int → Nat → Prop) (B : Tree → Nat → List Stp → Nat × List Stp) (X : Tree → Nat → Nat → Prop) (t : Tree) : Prop := ∀ nx S, nx < S.length → Built lf ah (X t) nx S (B t nx S)
section
variable {B : Tree → Nat → List Stp → Nat × List Stp} {X : Tree → Nat → Nat → Prop}
end
def prg (f : Nat) (T : Tree) : Nat × List Stp := bld f T 0 [finish]
end Sm
end Go.Proofs.YtnagphodmfejiaaGreatDoor
namespace Go.Proofs.YtnagphodmfejiaaGreatDoor
namespace Sm
variable {lf : Tree → Nat → Prop} {ah : Int → Nat → Prop}
end Sm
end Go.Proofs.YtnagphodmfejiaaGreatDoor
