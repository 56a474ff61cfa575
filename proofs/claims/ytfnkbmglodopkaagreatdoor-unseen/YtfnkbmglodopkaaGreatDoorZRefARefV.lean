/- The reference's smallest functions: what each answers, for every argument. The reference's readers of digits. The reference's braced numbers and halves of pairs. The reference's escapes of one number. The reference's escapes of one number: behind the backslash. The reference's sets, and its escapes. The reference's escapes. The reference's characters of a text. Texts: where characters begin. Plain facts on bytes. The reference's plain characters, and members of a class. The reference's members, openings and counts. The reference's counts. The reference's quantifiers. The reference's quantifiers. The reference's lexer stays within the text, at a character's beginning. Plain facts. Parts and tokens in memory; the classes of the reference, as a function. The reference's classes. The reference's tokens, one by one. The reference's tokens of a pattern: as a function; tokens in memory. Quantifiers and tokens leave the lexer at a character's beginning. Plain facts. The reference's tokens of a pattern. The reference's groups: where one closes. -/
import Derived.Test.YtfnkbmglodopkaaGreatDoorProg
import Derived.Test.YtfnkbmglodopkaaGreatDoorZBaseSemD
import Derived.WalkSpells
import Derived.Lib.Strings
import Derived.Lib.IndexBytes
import Derived.Deep.DeepCutAuto
namespace Go.Proofs.YtfnkbmglodopkaaGreatDoor
section
open Go.RowKit
namespace Ref
def leastV (n : Int) : Int := if n = 2 then 128 else if n = 3 then 2048 else if n = 4 then 65536 else 0
def headN (b : Int) : Int := if b < 128 then 1 else if 192 ≤ b ∧ b < 224 then 2 else if 224 ≤ b ∧ b < 240 then 3 else if 240 ≤ b ∧ b < 248 then 4 else 0
def headC (b : Int) : Int := if b < 128 then b else if 192 ≤ b ∧ b < 224 then b - 192 else if 224 ≤ b ∧ b < 240 then b - 224 else if 240 ≤ b ∧ b < 248 then b - 240 else 0
end Ref
namespace Ref
end Ref
namespace Ref
end Ref
namespace Ref
end Ref
namespace Ref
end Ref
namespace Ref
end Ref
theorem ownsRow_keep {P : Nat → Prop} {w w' : World} {base : Nat} {e : TypeId} {size : Nat} {v : Value} {n : Nat} {xs : List Value} (h : w.ownsRow base e size v n xs) (k : Only P w w') (hn : ∀ g, v.ownBlock = some g → ¬ P g) :
   w'.ownsRow base e size v n xs := by
 obtain ⟨h1, h2⟩ := h
 refine ⟨h1, ?_⟩
 rcases h2 with h2 | ⟨g, cap, cur, rfl, hb, hh, h3⟩
 · exact .inl h2
 · refine .inr ⟨g, cap, cur, rfl, hb, ?_, h3⟩
   have hg : g < w.heap.size := (Array.getElem?_eq_some_iff.1 hh).1
   rw [k.block g hg (hn g rfl)]; exact hh
theorem ownsRow_base {w : World} {base base' : Nat} {e : TypeId} {size : Nat} {v : Value} {n : Nat} {xs : List Value} (h : w.ownsRow base e size v n xs) (hb : base' ≤ base) : w.ownsRow base' e size v n xs := by
 obtain ⟨h1, h2⟩ := h
 refine ⟨h1, ?_⟩
 rcases h2 with h2 | ⟨g, cap, cur, rfl, hb', hh, h3⟩
 · exact .inl h2
 · exact .inr ⟨g, cap, cur, rfl, by omega, hh, h3⟩
theorem ownsRow_block {w : World} {base : Nat} {e : TypeId} {size : Nat} {v : Value} {n : Nat} {xs : List Value} (h : w.ownsRow base e size v n xs) (g : Nat) (hg : v.ownBlock = some g) : base ≤ g ∧ g < w.heap.size := h.lt g hg
structure Pt where
 neg : Bool
 spans : List (Int × Int)
namespace Ref
def digitL : List (Int × Int) := [(48, 57)]
def wordL : List (Int × Int) := [(48, 57), (65, 90), (95, 95), (97, 122)]
def blankL : List (Int × Int) := [(9, 13), (32, 32), (160, 160), (5760, 5760), (8192, 8202), (8232, 8233), (8239, 8239), (8287, 8287), (12288, 12288), (65279, 65279)]
def setL (b : Int) : List (Int × Int) := if b = 100 ∨ b = 68 then digitL else if b = 119 ∨ b = 87 then wordL else if b = 115 ∨ b = 83 then blankL else []
end Ref
theorem cell_kept {P : Nat → Prop} {w w' : World} (h : Only P w w') (p : Addr) (v : Value) (hp : w.cell? p = some v) (hn : ¬ P p.block) : w'.cell? p = some v :=
 (h.cell (World.block_lt_of_cell? w p hp) hn).trans hp
theorem frozen_kept {P : Nat → Prop} {w w' : World} (h : Only P w w') (p : Addr) (hl : p.block < w.heap.size) (hp : w.frozen? p = false) (hn : ¬ P p.block) : w'.frozen? p = false :=
 (h.frozen hl hn).trans hp
theorem new_cell (W : World) (n : Nat) (hn : W.heap.size = n) (c : Array Value) (T : TypeId) (off : Nat) (v : Value) (h : c[off]? = some v) : (W.alloc (.cells c T)).cell? ⟨n, off, none⟩ = some v := by
 subst hn; rw [World.cell?_alloc_at _ _ _ _ rfl]; exact h
theorem new_frozen (W : World) (n : Nat) (hn : W.heap.size = n) (c : Array Value) (T : TypeId) (off : Nat) : (W.alloc (.cells c T)).frozen? ⟨n, off, none⟩ = false := by
 subst hn; exact World.frozen?_alloc_at _ _ _ _ rfl
namespace Ref
def contF (s : ByteArray) (p : Nat) : Nat → Nat → Int → Option Int
 | 0, _, c => some c
 | k + 1, i, c => if byteAt s (p + i) < 128 ∨ 191 < byteAt s (p + i) then none else contF s p k (i + 1) (c * 64 + byteAt s (p + i) - 128)
def headK (b : Int) : Nat := (headN b).toNat
theorem headK_cast (b : Int) : headN b = (headK b : Int) := by unfold headK headN; (repeat' split) <;> rfl
theorem headK_le (b : Int) : headK b ≤ 4 := by unfold headK headN; (repeat' split) <;> decide
def badC (n : Nat) (c : Int) : Bool := decide (c < leastV n) || decide (1114111 < c) || (decide (55296 ≤ c) && decide (c ≤ 57343))
def oneF (s : ByteArray) (p : Nat) : Option (Nat × Int) :=
 if headK (byteAt s p) = 0 ∨ s.size < p + headK (byteAt s p) then none
 else match contF s p (headK (byteAt s p) - 1) 1 (headC (byteAt s p)) with
   | none => none
   | some c => if badC (headK (byteAt s p)) c = true then none else some (headK (byteAt s p), c)
def charsF (s : ByteArray) : Nat → Nat → List (Int × Int) → List (Int × Int) × Int
 | 0, _, acc => (acc, -1)
 | f + 1, p, acc => if p < s.size then (match oneF s p with
     | none => (acc, (p : Int))
     | some (n, c) => charsF s f (p + n) (acc ++ [(c, (p : Int))])) else (acc, -1)
def charsR (s : ByteArray) : List (Int × Int) × Int := charsF s (s.size + 1) 0 []
theorem contF_bad {s : ByteArray} {p k i : Nat} {c : Int} (h : byteAt s (p + i) < 128 ∨ 191 < byteAt s (p + i)) : contF s p (k + 1) i c = none := by simp only [contF]; rw [if_pos h]
theorem contF_good {s : ByteArray} {p k i : Nat} {c : Int} (h : ¬ (byteAt s (p + i) < 128 ∨ 191 < byteAt s (p + i))) : contF s p (k + 1) i c = contF s p k (i + 1) (c * 64 + byteAt s (p + i) - 128) := by simp only [contF]; rw [if_neg h]
theorem charsF_end {s : ByteArray} {f p : Nat} {acc : List (Int × Int)} (h : ¬ p < s.size) : charsF s (f + 1) p acc = (acc, -1) := by simp only [charsF]; rw [if_neg h]
theorem charsF_bad {s : ByteArray} {f p : Nat} {acc : List (Int × Int)} (h : p < s.size) (h1 : oneF s p = none) : charsF s (f + 1) p acc = (acc, (p : Int)) := by simp only [charsF]; rw [if_pos h, h1]
theorem charsF_good {s : ByteArray} {f p n : Nat} {c : Int} {acc : List (Int × Int)} (h : p < s.size) (h1 : oneF s p = some (n, c)) : charsF s (f + 1) p acc = charsF s f (p + n) (acc ++ [(c, (p : Int))]) := by simp only [charsF]; rw [if_pos h, h1]
theorem oneF_none1 {s : ByteArray} {p : Nat} (h : headK (byteAt s p) = 0 ∨ s.size < p + headK (byteAt s p)) : oneF s p = none := by unfold oneF; rw [if_pos h]
theorem oneF_none2 {s : ByteArray} {p : Nat} (h : ¬ (headK (byteAt s p) = 0 ∨ s.size < p + headK (byteAt s p))) (h1 : contF s p (headK (byteAt s p) - 1) 1 (headC (byteAt s p)) = none) : oneF s p = none := by unfold oneF; rw [if_neg h, h1]
theorem oneF_some {s : ByteArray} {p : Nat} {c : Int} (h : ¬ (headK (byteAt s p) = 0 ∨ s.size < p + headK (byteAt s p))) (h1 : contF s p (headK (byteAt s p) - 1) 1 (headC (byteAt s p)) = some c) (h2 : badC (headK (byteAt s p)) c = false) : oneF s p = some (headK (byteAt s p), c) := by
 unfold oneF; rw [if_neg h, h1]; simp [h2]
end Ref
namespace Ref
theorem oneF_bd {s : ByteArray} {p n : Nat} {c : Int} (h : oneF s p = some (n, c)) : 1 ≤ n ∧ p + n ≤ s.size ∧ n ≤ 4 ∧ n = headK (byteAt s p) ∧ 0 ≤ c ∧ c ≤ 1114111 ∧ ¬ (55296 ≤ c ∧ c ≤ 57343) := by
 unfold oneF at h
 split at h
 · cases h
 · rename_i h1
   split at h
   · cases h
   · rename_i c' hc
     split at h
     · cases h
     · rename_i hb
       simp only [Option.some.injEq, Prod.mk.injEq] at h
       obtain ⟨rfl, rfl⟩ := h
       have := headK_le (byteAt s p)
       simp only [badC, Bool.or_eq_true, Bool.and_eq_true, decide_eq_true_eq] at hb
       have hl : 0 ≤ leastV (headK (byteAt s p)) := by unfold leastV; (repeat' split) <;> omega
       omega
theorem oneF_ascii {s : ByteArray} {p : Nat} (h0 : 0 ≤ byteAt s p) (h1 : byteAt s p < 128) : oneF s p = some (1, byteAt s p) := by
 have hlt := (byteAt_nonneg s p).1 h0
 have hn : headK (byteAt s p) = 1 := by simp [headK, headN, h1]
 have hc : headC (byteAt s p) = byteAt s p := by simp [headC, h1]
 have hbc : badC 1 (byteAt s p) = false := by simp [badC, leastV]; omega
 unfold oneF
 rw [hn, if_neg (by omega), hc]
 simp [contF, hbc]
end Ref

namespace Ref
end Ref
theorem Only.undrewN {P : Nat → Prop} {a w : World} {n : Nat} (h : Only P (a.drewN n) w) : Only P a w := ⟨h.os, h.tape, h.output, h.size, h.block⟩
theorem own_slice {w : World} {base : Nat} {T : TypeId} {size : Nat} {v : Value} {n : Nat} {xs : List Value} (h : w.ownsRow base T size v n xs) : ∃ a k c, v = .slice a k c := by
 obtain ⟨h1, h2⟩ := h
 rcases h2 with ⟨rfl, _⟩ | ⟨g, cap, cur, rfl, _⟩
 · exact ⟨_, _, _, rfl⟩
 · exact ⟨_, _, _, rfl⟩
namespace Ref
end Ref
namespace Ref
end Ref
section
variable {P : Nat → Prop} {w w' : World} {n : Nat} {a0 a1 a2 a3 a4 a5 : Value}
end
namespace Ref
end Ref
namespace Ref
end Ref
namespace Ref
end Ref
theorem Only.ofGrown {w w' : World} {row : Option Nat} (h : w.grownBy w' row) : Only (fun k => row = some k) w w' :=
 ⟨h.os, h.tape, h.output, h.size, fun k hk hn => h.block k hk (fun e => hn e.symm)⟩
theorem own_ne {w : World} {base base' : Nat} {e e' : TypeId} {size size' : Nat} {v v' : Value} {n n' : Nat} {xs xs' : List Value} (h : w.ownsRow base e size v n xs) (h' : w.ownsRow base' e' size' v' n' xs') (he : e ≠ e') (g : Nat) (hg : v.ownBlock = some g) : ¬ v'.ownBlock = some g := by
 intro hg'
 obtain ⟨_, h2⟩ := h
 obtain ⟨_, h2'⟩ := h'
 rcases h2 with ⟨rfl, _⟩ | ⟨g1, cap, cur, rfl, hb, hh, _⟩
 · simp [Value.ownBlock] at hg
 rcases h2' with ⟨rfl, _⟩ | ⟨g2, cap', cur', rfl, hb', hh', _⟩
 · simp [Value.ownBlock] at hg'
 simp only [Value.ownBlock, Option.some.injEq] at hg hg'
 subst hg; subst hg'
 rw [hh] at hh'
 simp only [Option.some.injEq, Obj.cells.injEq] at hh'
 exact he hh'.2.1
namespace Ref
section
variable {s : ByteArray} {f : Nat} {ps : List Pt} {st : St}
end
end Ref
theorem wrap_small (n : Int) (h1 : 0 ≤ n) (h2 : n ≤ 100000) : IntKind.i64.wrap n = n := by
 rw [IntKind.wrap_i64]; omega
namespace Ref
end Ref
structure Tok where
 kind : Int
 neg : Bool
 parts : List Pt
 c : Int
 mn : Int
 mx : Int
namespace Ref
end Ref
namespace Ref
def turnO (k op : Int) : Int := if k = 3 then op + 1 else if k = 4 then op - 1 else op
end Ref
namespace Ref
section
variable {s : ByteArray} {f : Nat} {l : List Tok} {op : Int} {atom : Bool} {st : St}
end
end Ref
namespace Ref
section
variable {s : ByteArray} {f : Nat} {L : List Tok} {k op : Int} {A B : St}
end
end Ref
namespace Ref
end Ref
namespace Ref
end Ref
end
end Go.Proofs.YtfnkbmglodopkaaGreatDoor
