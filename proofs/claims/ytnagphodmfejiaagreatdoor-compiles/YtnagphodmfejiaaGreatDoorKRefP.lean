/- Parts and tokens in memory; the classes of the reference, as a function. -/
import Derived.Test.YtnagphodmfejiaaGreatDoorKRefMRefO
namespace Go.Proofs.YtnagphodmfejiaaGreatDoor
open Go.RowKit
theorem Only.ofGrown {w w' : World} {row : Option Nat} (h : w.grownBy w' row) : Only (fun k => row = some k) w w' :=
 ⟨h.os, h.tape, h.output, h.size, fun k hk hn => h.block k hk (fun e => hn e.symm)⟩
theorem own_ne {w : World} {base base' : Nat} {e e' : TypeId} {size size' : Nat} {v v' : Value} {n n' : Nat} {xs xs' : List Value} (h : w.ownsRow base e size v n xs) (h' : w.ownsRow base' e' size' v' n' xs') (he : e ≠ e') (g : Nat) (hg : v.ownBlock = some g) : ¬ v'.ownBlock = some g := by
 intro hg'
 obtain ⟨_, h2⟩ := h
 obtain ⟨_, h2'⟩ := h'
 rcases h2 with ⟨rfl, _⟩ | ⟨g1, cap, cur, rfl, hb, hh, _⟩
 · simp [Value.ownBlock] at hg
 rcases h2' with ⟨rfl, _⟩ | ⟨g2, cap', cur', rfl, hb', hh', _⟩
 · simp [Value.ownBlock] at hg'
 simp only [Value.ownBlock, Option.some.injEq] at hg hg'
 subst hg; subst hg'
 rw [hh] at hh'
 simp only [Option.some.injEq, Obj.cells.injEq] at hh'
 exact he hh'.2.1
def PartsOK (w : World) (base : Nat) : List Pt → List Value → Prop
 | [], [] => True
 | p :: ps, b :: v :: vs => b = .bool p.neg ∧ SpansAt w base v p.spans ∧ PartsOK w base ps vs
 | _, _ => False
def PartsAt (w : World) (base : Nat) (v : Value) (l : List Pt) : Prop := ∃ cs, w.ownsRow base 274 2 v l.length cs ∧ PartsOK w base l cs
theorem PartsOK.keep {P : Nat → Prop} {w w' : World} {base : Nat} (k : Only P w w') (hn : ∀ g, base ≤ g → g < w.heap.size → ¬ P g) : ∀ (l : List Pt) (cs : List Value), PartsOK w base l cs → PartsOK w' base l cs
 | [], [], _ => trivial
 | _p :: ps, _b :: _v :: vs, h => ⟨h.1, h.2.1.keep k hn, PartsOK.keep k hn ps vs h.2.2⟩
 | [], _ :: _, h => h
 | _ :: _, [], h => h
 | _ :: _, [_], h => h
theorem PartsAt.keep {P : Nat → Prop} {w w' : World} {base : Nat} {v : Value} {l : List Pt} (h : PartsAt w base v l) (k : Only P w w') (hn : ∀ g, base ≤ g → g < w.heap.size → ¬ P g) : PartsAt w' base v l := by
 obtain ⟨cs, h1, h2⟩ := h
 exact ⟨cs, ownsRow_keep h1 k (fun g hg => hn g (ownsRow_block h1 g hg).1 (ownsRow_block h1 g hg).2), PartsOK.keep k hn l cs h2⟩
theorem PartsOK.base {w : World} {base base' : Nat} (hb : base' ≤ base) : ∀ (l : List Pt) (cs : List Value), PartsOK w base l cs → PartsOK w base' l cs
 | [], [], _ => trivial
 | _p :: ps, _b :: _v :: vs, h => ⟨h.1, h.2.1.base hb, PartsOK.base hb ps vs h.2.2⟩
 | [], _ :: _, h => h
 | _ :: _, [], h => h
 | _ :: _, [_], h => h
theorem PartsAt.base {w : World} {base base' : Nat} {v : Value} {l : List Pt} (h : PartsAt w base v l) (hb : base' ≤ base) : PartsAt w base' v l := by
 obtain ⟨cs, h1, h2⟩ := h
 exact ⟨cs, ownsRow_base h1 hb, PartsOK.base hb l cs h2⟩
theorem PartsAt.nil (w : World) (base : Nat) : PartsAt w base (.slice none 0 0) [] := ⟨[], World.ownsRow_nil _ _ _ _, trivial⟩
theorem SpansAt.grown {w w' : World} {base base' : Nat} {sv v : Value} {n : Nat} {xs : List Value} {l : List (Int × Int)} (h : SpansAt w base sv l) (hr : w.ownsRow base' 274 2 v n xs) (hg : w.grownBy w' v.ownBlock) : SpansAt w' base sv l :=
 ownsRow_keep h (Only.ofGrown hg) (fun g h1 h2 => own_ne h hr (by decide) g h1 h2)
theorem PartsOK.grown {w w' : World} {base base' : Nat} {v : Value} {n : Nat} {xs : List Value} (hr : w.ownsRow base' 274 2 v n xs) (hg : w.grownBy w' v.ownBlock) : ∀ (l : List Pt) (cs : List Value), PartsOK w base l cs → PartsOK w' base l cs
 | [], [], _ => trivial
 | _p :: ps, _b :: _v :: vs, h => ⟨h.1, h.2.1.grown hr hg, PartsOK.grown hr hg ps vs h.2.2⟩
 | [], _ :: _, h => h
 | _ :: _, [], h => h
 | _ :: _, [_], h => h
theorem PartsOK.append {w : World} {base : Nat} {p : Pt} {sv : Value} (hs : SpansAt w base sv p.spans) : ∀ (l : List Pt) (cs : List Value), PartsOK w base l cs → PartsOK w base (l ++ [p]) (cs ++ [.bool p.neg, sv])
 | [], [], _ => ⟨rfl, hs, trivial⟩
 | _q :: ps, _b :: _v :: vs, h => ⟨h.1, h.2.1, PartsOK.append hs ps vs h.2.2⟩
 | [], _ :: _, h => h.elim
 | _ :: _, [], h => h.elim
 | _ :: _, [_], h => h.elim
theorem PartsAt.appended {w w' : World} {base : Nat} {v v' : Value} {l : List Pt} {cs : List Value} {p : Pt} {sv : Value} (h1 : w.ownsRow base 274 2 v l.length cs) (h2 : PartsOK w base l cs) (hs : SpansAt w base sv p.spans)
   (hown : w'.ownsRow base 274 2 v' (l.length + 1) (cs ++ [.bool p.neg, sv])) (hg : w.grownBy w' v.ownBlock) : PartsAt w' base v' (l ++ [p]) :=
 ⟨cs ++ [.bool p.neg, sv], by rw [List.length_append]; exact hown, PartsOK.append (hs.grown h1 hg) l cs (PartsOK.grown h1 hg l cs h2)⟩
namespace Ref
def rangeB (s : ByteArray) (st : St) : Bool := decide (st.e = 0) && decide (byteAt s st.i = 45) && decide (st.i + 1 < s.size) && decide (byteAt s (st.i + 1) ≠ 93)
def loOf (p : Pt) : Int := match p.spans with
 | [] => 0
 | x :: _ => x.1
def badB (p q : Pt) (one two : Bool) : Bool := !one || !two || decide (loOf q < loOf p)
def classF (s : ByteArray) : Nat → List Pt → St → List Pt × St
 | 0, ps, st => (ps, st)
 | f + 1, ps, st =>
   if st.e = 0 ∧ byteAt s st.i ≠ 93 then
     (if byteAt s st.i < 0 then (ps, st.fail 3 st.i)
      else if rangeB s (memberF s st).2.2 = true then
       (if (memberF s ((memberF s st).2.2.go 1)).2.2.e ≠ 0 then (ps, (memberF s ((memberF s st).2.2.go 1)).2.2)
        else if badB (memberF s st).1 (memberF s ((memberF s st).2.2.go 1)).1 (memberF s st).2.1 (memberF s ((memberF s st).2.2.go 1)).2.1 = true then (ps, (memberF s ((memberF s st).2.2.go 1)).2.2.fail 4 (memberF s st).2.2.i)
        else classF s f (ps ++ [⟨(memberF s st).1.neg, [(loOf (memberF s st).1, loOf (memberF s ((memberF s st).2.2.go 1)).1)]⟩]) (memberF s ((memberF s st).2.2.go 1)).2.2)
      else classF s f (ps ++ [(memberF s st).1]) (memberF s st).2.2)
   else (ps, st.go 1)
def notB (s : ByteArray) (st : St) : Bool := decide (byteAt s st.i = 94)
def classSt (s : ByteArray) (st : St) : St := if notB s st = true then st.go 1 else st
def classR (s : ByteArray) (st : St) : List Pt × St := classF s (s.size + 1 - (classSt s st).i) [] (classSt s st)
section
variable {s : ByteArray} {f : Nat} {ps : List Pt} {st : St}
theorem classF_end (h : ¬ (st.e = 0 ∧ byteAt s st.i ≠ 93)) : classF s (f + 1) ps st = (ps, st.go 1) := by simp only [classF]; rw [if_neg h]
theorem classF_open (h : st.e = 0 ∧ byteAt s st.i ≠ 93) (h1 : byteAt s st.i < 0) : classF s (f + 1) ps st = (ps, st.fail 3 st.i) := by simp only [classF]; rw [if_pos h, if_pos h1]
theorem classF_one (h : st.e = 0 ∧ byteAt s st.i ≠ 93) (h1 : ¬ byteAt s st.i < 0) (h2 : ¬ rangeB s (memberF s st).2.2 = true) : classF s (f + 1) ps st = classF s f (ps ++ [(memberF s st).1]) (memberF s st).2.2 := by
 simp only [classF]; rw [if_pos h, if_neg h1, if_neg h2]
theorem classF_dead (h : st.e = 0 ∧ byteAt s st.i ≠ 93) (h1 : ¬ byteAt s st.i < 0) (h2 : rangeB s (memberF s st).2.2 = true) (h3 : ¬ (memberF s ((memberF s st).2.2.go 1)).2.2.e = 0) : classF s (f + 1) ps st = (ps, (memberF s ((memberF s st).2.2.go 1)).2.2) := by
 simp only [classF]; rw [if_pos h, if_neg h1, if_pos h2, if_pos h3]
theorem classF_bad (h : st.e = 0 ∧ byteAt s st.i ≠ 93) (h1 : ¬ byteAt s st.i < 0) (h2 : rangeB s (memberF s st).2.2 = true) (h3 : (memberF s ((memberF s st).2.2.go 1)).2.2.e = 0)
   (h4 : badB (memberF s st).1 (memberF s ((memberF s st).2.2.go 1)).1 (memberF s st).2.1 (memberF s ((memberF s st).2.2.go 1)).2.1 = true) : classF s (f + 1) ps st = (ps, (memberF s ((memberF s st).2.2.go 1)).2.2.fail 4 (memberF s st).2.2.i) := by
 simp only [classF]; rw [if_pos h, if_neg h1, if_pos h2, if_neg (by simp [h3]), if_pos h4]
theorem classF_range (h : st.e = 0 ∧ byteAt s st.i ≠ 93) (h1 : ¬ byteAt s st.i < 0) (h2 : rangeB s (memberF s st).2.2 = true) (h3 : (memberF s ((memberF s st).2.2.go 1)).2.2.e = 0)
   (h4 : ¬ badB (memberF s st).1 (memberF s ((memberF s st).2.2.go 1)).1 (memberF s st).2.1 (memberF s ((memberF s st).2.2.go 1)).2.1 = true) :
   classF s (f + 1) ps st = classF s f (ps ++ [⟨(memberF s st).1.neg, [(loOf (memberF s st).1, loOf (memberF s ((memberF s st).2.2.go 1)).1)]⟩]) (memberF s ((memberF s st).2.2.go 1)).2.2 := by
 simp only [classF]; rw [if_pos h, if_neg h1, if_pos h2, if_neg (by simp [h3]), if_neg h4]
end
end Ref
end Go.Proofs.YtnagphodmfejiaaGreatDoor
