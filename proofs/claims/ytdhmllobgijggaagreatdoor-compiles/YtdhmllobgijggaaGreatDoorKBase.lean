/- Worlds that differ in named blocks alone, and a lexer's four cells. No translation is named here. -/
import Derived.WalkKit
import Derived.WalkSpells
import Derived.WalkLawsBesides
import Derived.Deep.QuietTactic
import Derived.BigQuiet
import Derived.Deep.RegionWith
namespace Go.Proofs.YtdhmllobgijggaaGreatDoor
open Go.RowKit

theorem hide {p : Prop} (h : p) : Hid p := h
theorem unhide {p : Prop} (h : Hid p) : p := h

/-- Of what was there, the blocks of P alone may have turned. -/
structure Only (P : Nat → Prop) (w w' : World) : Prop where
  os : w'.os = w.os
  tape : w'.tape = w.tape
  output : w'.output = w.output
  size : w.heap.size ≤ w'.heap.size
  block : ∀ k, k < w.heap.size → ¬ P k → w'.heap[k]? = w.heap[k]?

theorem Only.refl (P : Nat → Prop) (w : World) : Only P w w := ⟨rfl, rfl, rfl, Nat.le_refl _, fun _ _ _ => rfl⟩

theorem Only.trans {P : Nat → Prop} {a b c : World} (h : Only P a b) (k : Only P b c) : Only P a c :=
  ⟨k.os.trans h.os, k.tape.trans h.tape, k.output.trans h.output, Nat.le_trans h.size k.size, fun i hi hp => (k.block i (Nat.lt_of_lt_of_le hi h.size) hp).trans (h.block i hi hp)⟩

theorem Only.mono {P Q : Nat → Prop} {a b : World} (h : Only P a b) (hPQ : ∀ k, k < a.heap.size → P k → Q k) : Only Q a b :=
  ⟨h.os, h.tape, h.output, h.size, fun i hi hq => h.block i hi (fun hp => hq (hPQ i hi hp))⟩

theorem Only.drew {P : Nat → Prop} {a w : World} (h : Only P a w) : Only P a w.drew := ⟨h.os, h.tape, h.output, h.size, h.block⟩

theorem Only.drewN {P : Nat → Prop} {a w : World} (h : Only P a w) (n : Nat) : Only P a (w.drewN n) := ⟨h.os, h.tape, h.output, h.size, h.block⟩

theorem Only.alloc {P : Nat → Prop} {a w : World} (h : Only P a w) (o : Obj) : Only P a (w.alloc o) :=
  ⟨h.os, h.tape, h.output, Nat.le_trans h.size (by simp), fun k hk hp => (Below.heap_alloc _ _ _ (Nat.lt_of_lt_of_le hk h.size)).trans (h.block k hk hp)⟩

theorem Only.setCell {P : Nat → Prop} {a w : World} (h : Only P a w) {p : Addr} (hp : P p.block ∨ a.heap.size ≤ p.block) (u : Value) : Only P a (w.setCell p u) :=
  ⟨h.os, h.tape, h.output, Nat.le_trans h.size (by simp [World.setCell]), fun k hk hn => (Below.heap_setCell _ _ _ _ (by
    rintro rfl
    rcases hp with hp | hp
    · exact hn hp
    · omega)).trans (h.block k hk hn)⟩

theorem Only.grown {P : Nat → Prop} {a w w' : World} {row : Option Nat} (h : Only P a w) (hg : w.grownBy w' row) (hr : ∀ k, row = some k → P k ∨ a.heap.size ≤ k) : Only P a w' :=
  ⟨hg.os.trans h.os, hg.tape.trans h.tape, hg.output.trans h.output, Nat.le_trans h.size hg.size, fun k hk hn => (hg.block k (Nat.lt_of_lt_of_le hk h.size) (fun e => by
    rcases hr k e.symm with hp | hp
    · exact hn hp
    · omega)).trans (h.block k hk hn)⟩

theorem Only.cell {P : Nat → Prop} {w w' : World} (h : Only P w w') {p : Addr} (hp : p.block < w.heap.size) (hn : ¬ P p.block) : w'.cell? p = w.cell? p := World.cell?_of_block (w := w) (h.block p.block hp hn)

theorem Only.frozen {P : Nat → Prop} {w w' : World} (h : Only P w w') {p : Addr} (hp : p.block < w.heap.size) (hn : ¬ P p.block) : w'.frozen? p = w.frozen? p := World.frozen?_of_block (w := w) (h.block p.block hp hn)

theorem Only.below {w w' : World} (h : Only (fun _ => False) w w') : Below w.heap.size w w' := ⟨h.os, h.tape, h.output, h.size, fun k hk => h.block k hk (fun f => f)⟩

theorem Only.ofBelow {P : Nat → Prop} {w w' : World} (h : Below w.heap.size w w') : Only P w w' := ⟨h.os, h.tape, h.output, h.size, fun k hk _ => h.block k hk⟩

/-- A lexer's four cells. -/
structure LexAt (w : World) (b : Nat) (s : ByteArray) (i e at' : Int) : Prop where
  c0 : w.cell? ⟨b, 0, none⟩ = some (.string s)
  c1 : w.cell? ⟨b, 1, none⟩ = some (.int .i64 i)
  c2 : w.cell? ⟨b, 2, none⟩ = some (.int .i64 e)
  c3 : w.cell? ⟨b, 3, none⟩ = some (.int .i64 at')
  f1 : w.frozen? ⟨b, 1, none⟩ = false
  f2 : w.frozen? ⟨b, 2, none⟩ = false
  f3 : w.frozen? ⟨b, 3, none⟩ = false

theorem LexAt.lt {w : World} {b : Nat} {s : ByteArray} {i e a : Int} (h : LexAt w b s i e a) : b < w.heap.size := World.block_lt_of_cell? w ⟨b, 0, none⟩ h.c0

theorem LexAt.keep {P : Nat → Prop} {w w' : World} {b : Nat} {s : ByteArray} {i e a : Int} (h : LexAt w b s i e a) (k : Only P w w') (hn : ¬ P b) : LexAt w' b s i e a :=
  ⟨(k.cell (p := ⟨b, 0, none⟩) h.lt hn).trans h.c0, (k.cell (p := ⟨b, 1, none⟩) h.lt hn).trans h.c1, (k.cell (p := ⟨b, 2, none⟩) h.lt hn).trans h.c2, (k.cell (p := ⟨b, 3, none⟩) h.lt hn).trans h.c3,
   (k.frozen (p := ⟨b, 1, none⟩) h.lt hn).trans h.f1, (k.frozen (p := ⟨b, 2, none⟩) h.lt hn).trans h.f2, (k.frozen (p := ⟨b, 3, none⟩) h.lt hn).trans h.f3⟩

theorem frozen_setCell (w : World) (a p : Addr) (u : Value) : (w.setCell a u).frozen? p = w.frozen? p := by simp

theorem LexAt.setI {w : World} {b : Nat} {s : ByteArray} {i e a : Int} (h : LexAt w b s i e a) (j : Int) : LexAt (w.setCell ⟨b, 1, none⟩ (.int .i64 j)) b s j e a :=
  ⟨(World.cell?_setCell_other _ _ _ _ (by simp)).trans h.c0, World.cell?_setCell_same _ _ _ h.c1, (World.cell?_setCell_other _ _ _ _ (by simp)).trans h.c2, (World.cell?_setCell_other _ _ _ _ (by simp)).trans h.c3,
   (frozen_setCell _ _ _ _).trans h.f1, (frozen_setCell _ _ _ _).trans h.f2, (frozen_setCell _ _ _ _).trans h.f3⟩

theorem LexAt.setE {w : World} {b : Nat} {s : ByteArray} {i e a : Int} (h : LexAt w b s i e a) (j : Int) : LexAt (w.setCell ⟨b, 2, none⟩ (.int .i64 j)) b s i j a :=
  ⟨(World.cell?_setCell_other _ _ _ _ (by simp)).trans h.c0, (World.cell?_setCell_other _ _ _ _ (by simp)).trans h.c1, World.cell?_setCell_same _ _ _ h.c2, (World.cell?_setCell_other _ _ _ _ (by simp)).trans h.c3,
   (frozen_setCell _ _ _ _).trans h.f1, (frozen_setCell _ _ _ _).trans h.f2, (frozen_setCell _ _ _ _).trans h.f3⟩

theorem LexAt.setA {w : World} {b : Nat} {s : ByteArray} {i e a : Int} (h : LexAt w b s i e a) (j : Int) : LexAt (w.setCell ⟨b, 3, none⟩ (.int .i64 j)) b s i e j :=
  ⟨(World.cell?_setCell_other _ _ _ _ (by simp)).trans h.c0, (World.cell?_setCell_other _ _ _ _ (by simp)).trans h.c1, (World.cell?_setCell_other _ _ _ _ (by simp)).trans h.c2, World.cell?_setCell_same _ _ _ h.c3,
   (frozen_setCell _ _ _ _).trans h.f1, (frozen_setCell _ _ _ _).trans h.f2, (frozen_setCell _ _ _ _).trans h.f3⟩

theorem LexAt.drewN {w : World} {b : Nat} {s : ByteArray} {i e a : Int} (h : LexAt w b s i e a) (n : Nat) : LexAt (w.drewN n) b s i e a :=
  h.keep ((Only.refl (fun _ => False) w).drewN n) (fun f => f)

/-- The lexer's own block alone may have turned. -/
def Mine (b : Nat) (k : Nat) : Prop := k = b

theorem Only.mine {b : Nat} {a w : World} (h : Only (Mine b) a w) (off : Nat) (u : Value) : Only (Mine b) a (w.setCell ⟨b, off, none⟩ u) := h.setCell (p := ⟨b, off, none⟩) (Or.inl (show b = b from rfl)) u

/-- The byte at a place, or -1. -/
def byteAt (s : ByteArray) (k : Nat) : Int := if h : k < s.size then (s[k].toNat : Int) else -1

theorem byteAt_lo (s : ByteArray) (k : Nat) : -1 ≤ byteAt s k := by unfold byteAt; split <;> omega
theorem byteAt_hi (s : ByteArray) (k : Nat) : byteAt s k ≤ 255 := by
  unfold byteAt; split
  · rename_i h; have := (s[k]).toNat_lt; omega
  · omega
theorem byteAt_in (s : ByteArray) (k : Nat) (h : k < s.size) : byteAt s k = (s[k].toNat : Int) := by unfold byteAt; rw [dif_pos h]
theorem byteAt_out (s : ByteArray) (k : Nat) (h : s.size ≤ k) : byteAt s k = -1 := by unfold byteAt; rw [dif_neg (by omega)]
theorem byteAt_nonneg (s : ByteArray) (k : Nat) : 0 ≤ byteAt s k ↔ k < s.size := by
  constructor
  · intro h; by_cases hk : k < s.size
    · exact hk
    · rw [byteAt_out s k (by omega)] at h; omega
  · intro h; rw [byteAt_in s k h]; omega

theorem byte_wrap (n : UInt8) : wrap64 (n.toNat : Int) = (n.toNat : Int) := by
  have := n.toNat_lt
  unfold wrap64; omega

theorem wrap64_small (n : Int) (h1 : -4611686018427387904 ≤ n) (h2 : n ≤ 4611686018427387904) : wrap64 n = n := by unfold wrap64; omega

/-- Where a lexer stands: its place, its fault, the fault's place. -/
structure St where
  i : Nat
  e : Int
  a : Int

/-- A lexer in memory. -/
def Lex (w : World) (b : Nat) (s : ByteArray) (st : St) : Prop := LexAt w b s st.i st.e st.a

def St.fail (st : St) (e' a' : Int) : St := if st.e = 0 then ⟨st.i, e', a'⟩ else st
def St.go (st : St) (n : Nat) : St := ⟨st.i + n, st.e, st.a⟩

end Go.Proofs.YtdhmllobgijggaaGreatDoor
