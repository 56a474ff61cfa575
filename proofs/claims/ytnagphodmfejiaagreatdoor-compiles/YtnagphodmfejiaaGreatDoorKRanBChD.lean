/- A loop over an iterator that reads: what the body owns is the body's, what the iterator lays is the iterator's. The program's iterator over the characters of a text. The program's iterator made, and the length of a character. -/
import Derived.Test.YtnagphodmfejiaaGreatDoorKRefXRanA
import Derived.RangeFuncNested
import Derived.Test.YtnagphodmfejiaaGreatDoorKEqLRefW
import Derived.RangeFuncBound
import Derived.RangeFuncLeaves
import Derived.Shelf.Abstract
import Derived.OwnWalkIn
import Derived.TacticsInMore
import Derived.LoopNIn
import Derived.LoopIn
namespace Go.Proofs.YtnagphodmfejiaaGreatDoor
open Go.RowKit
def SeqO {α : Type} (F : Fence) (n : Nat) (P : Program) (gf : Nat) (lb : Array Value) (encs : α → Array Value) (xs : List α) (D : Nat → Prop) (w0 : World) : Prop :=
 ∀ (l : Nat) (J : List α → (Nat → Prop) → World → Prop) (O0 : Nat → Prop) (W : World), Only (fun _ => False) w0 W → (∀ k, D k → ¬ O0 k) → (∀ k, O0 k → k < W.heap.size) →
   (∀ pre O A A', J pre O A → Only (fun k => W.heap.size ≤ k ∧ ¬ O k) A A' → J pre O A') →
   (∀ pre O x A, J pre O A → (pre ++ [x]) <+: xs → YieldAt F (n - 1) P l (encs x) A fun e A' => e = .returned (.bool true) ∧ ∃ O', J (pre ++ [x]) O' A' ∧ (∀ k, O' k → O k ∨ A.heap.size ≤ k) ∧ Only O A A' ∧ ∀ k, O' k → k < A'.heap.size) →
   J [] O0 W → CallsIn F n P gf (#[.func (.yield l) #[] #[]] ++ lb) W fun e W' => (∃ v, e = .returned v) ∧ ∃ O', J xs O' W'
def goesO {α : Type} (I : List α → (Nat → Prop) → World → Prop) (xs : List α) (O : Nat → Prop) (W : World) : Exit → Act → World → Prop
 | .normal, _, W' => ∃ O', I xs O' W' ∧ (∀ k, O' k → O k ∨ W.heap.size ≤ k) ∧ Only O W W' ∧ ∀ k, O' k → k < W'.heap.size
 | _, _, _ => False
variable {F : Fence} {n : Nat} {P : Program}
theorem size_putObj (W : World) (l : Nat) (o : Obj) : (W.putObj l o).heap.size = W.heap.size := by simp [World.putObj]
theorem wpIn_rangeO {α : Type} {g : Operand} {ps : Array Tmp} {assign body : Code} {Q : Exit → Act → World → Prop} {a : Act} {w : World}
   (hro : F.round = none) (h1 : 1 ≤ n) {gf : Nat} {lb : Array Value} (hg : a.eval g = .func (.func gf) #[] lb) (hFg : F.fn gf) (eg : ∀ args w, (callFunc gf args).run P w = .ok (.enter gf args) w)
   {encs : α → Array Value} {xs : List α} {D : Nat → Prop} (hseq : SeqO F (n - 1) P gf lb encs xs D w) (hps : ∀ x, (encs x).size = ps.size)
   (I : List α → (Nat → Prop) → World → Prop) (O0 : Nat → Prop) (hO0 : ∀ k, O0 k → k < w.heap.size) (hD : ∀ k, D k → k < w.heap.size ∧ ¬ O0 k)
   (hI : ∀ pre O A A', I pre O A → Only (fun k => w.heap.size ≤ k ∧ ¬ O k) A A' → I pre O A')
   (h0 : I [] O0 w) (a₁ : α → Act)
   (hassign : ∀ (l : Nat) (x : α) (W : World) (K : Act → World → Prop), K (a₁ x) W →
     assign.wpIn (F.inRound l) (n - 1 - 1) P (Exit.then K (fun _ _ _ => False)) { tmps := (ps.zip (encs x)).foldl (fun t (p, v) => t.setIfInBounds p v) a.tmps, defers := [] } W)
   (hbody : ∀ (l : Nat) (pre : List α) (O : Nat → Prop) (x : α) (W : World), w.heap.size ≤ l → ¬ O l → (∃ r, W.heap[l]? = some (.loop r)) → I pre O W → (pre ++ [x]) <+: xs → body.wpIn (F.inRound l) (n - 1 - 1) P (goesO I (pre ++ [x]) O W) (a₁ x) W)
   (hdone : ∀ (D : Nat) (O : Nat → Prop) (W : World), w.heap.size ≤ D → ¬ O D → I xs O W → W.heap[D]? = some (.deferred (some [])) → Q .normal { a with defers := { target := .collected D, args := #[] } :: a.defers } W) :
   (Code.rangeFunc g ps assign body).wpIn F n P Q a w := by
 refine wpIn_rangeFunc ?_
 intro fn hfn
 rw [hro]
 obtain ⟨rec, hrec⟩ : ∃ rec : LoopState → Loop, rec = fun st => { state := st, pending := none, fn, tmps := a.tmps, params := ps, assign, body, defers := w.heap.size } := ⟨_, rfl⟩
 obtain ⟨V, hV⟩ : ∃ V, (w.alloc (.deferred (some []))).alloc (.loop (rec .ready)) = V := ⟨_, rfl⟩
 have hO : Only (fun _ => False) w V := by rw [← hV]; exact ((Only.refl _ w).alloc _).alloc _
 have hsz : V.heap.size = w.heap.size + 1 + 1 := by rw [← hV]; simp
 have hL1 : V.heap[w.heap.size + 1]? = some (.loop (rec .ready)) := by
   rw [← hV]; have := World.alloc_heap_new (w.alloc (.deferred (some []))) (.loop (rec .ready)); rwa [World.size_alloc] at this
 have hD1 : V.heap[w.heap.size]? = some (.deferred (some [])) := by
   rw [← hV]; exact (Below.heap_alloc _ _ _ (by simp)).trans (World.alloc_heap_new w _)
 refine ⟨w.heap.size + 1, [{ target := .collected w.heap.size, args := #[] }], V, { target := .fn (.func gf) lb, args := #[.func (.yield (w.heap.size + 1)) #[] #[]] }, V, gf,
   #[.func (.yield (w.heap.size + 1)) #[] #[]] ++ lb, V, ?_, ?_, ?_, ?_, fun _ => h1, ?_⟩
 · rw [← hV, hrec]; exact run_enterLoop_outer _ _ _ _ _
 · simp only [resolve, hg]
   simp [go_sem]
 · intro f' hf'; simp [Target.leads] at hf'; subst hf'; exact hFg
 · simp [invoke, go_sem, eg]
 · have put : ∀ pre Ob A o', I pre Ob A → ¬ Ob (w.heap.size + 1) → I pre Ob (A.putObj (w.heap.size + 1) o') := fun pre Ob A o' hi hn =>
     hI pre Ob A _ hi ((Only.refl _ A).putObj _ _ (.inl ⟨by omega, hn⟩))
   refine (hseq (w.heap.size + 1) (fun pre O W => ∃ Ob : Nat → Prop, (∀ k, O k ↔ Ob k ∨ k = w.heap.size + 1) ∧ ¬ Ob (w.heap.size + 1) ∧ ¬ Ob w.heap.size ∧ I pre Ob W ∧ W.heap[w.heap.size + 1]? = some (.loop (rec .ready)) ∧ W.heap[w.heap.size]? = some (.deferred (some []))) (fun k => O0 k ∨ k = w.heap.size + 1) V hO ?_ ?_ ?_ ?_
     ⟨O0, fun _ => Iff.rfl, fun h => by have := hO0 _ h; omega, fun h => by have := hO0 _ h; omega, hI _ _ _ _ h0 (hO.mono (fun _ _ f => f.elim)), hL1, hD1⟩).mono ?_
   · intro k hk hor
     obtain ⟨h1, h2⟩ := hD k hk
     rcases hor with h | h
     · exact h2 h
     · omega
   · rintro k (h | h)
     · have := hO0 k h; omega
     · omega
   · rintro pre O A A' ⟨Ob, hOb, hnL, hnD, hi, hl, hd⟩ hA
     have lt : ∀ k o, A.heap[k]? = some o → k < V.heap.size → A'.heap[k]? = some o := fun k o hk hlt => (hA.block k (Array.getElem?_eq_some_iff.1 hk).1 (fun hp => by omega)).trans hk
     exact ⟨Ob, hOb, hnL, hnD, hI pre Ob A A' hi (hA.mono (fun k hk hp => ⟨by omega, fun h => hp.2 ((hOb k).2 (.inl h))⟩)), lt _ _ hl (by omega), lt _ _ hd (by omega)⟩
   · rintro pre O x W ⟨Ob, hOb, hnL, hnD, hi, hl, hd⟩ hpre
     have hlt : w.heap.size + 1 < W.heap.size := (Array.getElem?_eq_some_iff.1 hl).1
     have hy := run_yield (P := P) (args := encs x) hl (by rw [hrec]; exact hps x)
     rw [hrec] at hy
     refine ⟨fn, _, assign, body, hy, roundIn_of_wpIn hfn (hassign _ x W _ ⟨_, run_beginRound hl (by rw [hrec]), ?_⟩)⟩
     have hl2 : (W.putObj (w.heap.size + 1) (.loop { rec .ready with state := .busy })).heap[w.heap.size + 1]? = some (.loop { rec .ready with state := .busy }) := World.putObj_heap_same hlt
     have hd2 : (W.putObj (w.heap.size + 1) (.loop { rec .ready with state := .busy })).heap[w.heap.size]? = some (.deferred (some [])) := (World.putObj_heap_other (by omega)).trans hd
     have hs2 : (W.putObj (w.heap.size + 1) (.loop { rec .ready with state := .busy })).heap.size = W.heap.size := by simp [World.putObj]
     have hk2 : Only O W (W.putObj (w.heap.size + 1) (.loop { rec .ready with state := .busy })) := (Only.refl _ W).putObj _ _ (.inl ((hOb _).2 (.inr rfl)))
     refine wpIn_mono (hbody _ pre Ob x _ (by omega) hnL ⟨_, hl2⟩ (put _ _ _ _ hi hnL) hpre) ?_
     rintro e a3 W3 hp
     cases e with
     | normal =>
       obtain ⟨O2, hi3, hsub, hO3, hlt3⟩ := hp
       have keep : ∀ k o, (W.putObj (w.heap.size + 1) (.loop { rec .ready with state := .busy })).heap[k]? = some o → ¬ Ob k → W3.heap[k]? = some o := fun k o hk hn => (hO3.block k (Array.getElem?_eq_some_iff.1 hk).1 hn).trans hk
       have hl3 := keep _ _ hl2 hnL
       have hd3 := keep _ _ hd2 hnD
       have hr := run_endRound (P := P) none hl3
       have hn2 : ¬ O2 (w.heap.size + 1) := fun h => by
         rcases hsub _ h with h | h
         · exact hnL h
         · rw [size_putObj] at h; omega
       have hn3 : ¬ O2 w.heap.size := fun h => by
         rcases hsub _ h with h | h
         · exact hnD h
         · rw [size_putObj] at h; omega
       refine ⟨_, _, hr, rfl, fun k => O2 k ∨ k = w.heap.size + 1, ⟨O2, fun _ => Iff.rfl, hn2, hn3, put _ _ _ _ hi3 hn2, ?_, (World.putObj_heap_other (by omega)).trans hd3⟩, ?_, (hk2.trans (hO3.mono (fun k _ h => (hOb k).2 (.inl h)))).putObj _ _ (.inl ((hOb _).2 (.inr rfl))), fun k hk => by
         rw [size_putObj]
         rcases hk with h | h
         · exact hlt3 k h
         · rw [h]; exact (Array.getElem?_eq_some_iff.1 hl3).1⟩
       · rw [World.putObj_heap_same (Array.getElem?_eq_some_iff.1 hl3).1, hrec]
         rfl
       · rintro k (h | h)
         · rcases hsub k h with h | h
           · exact .inl ((hOb k).2 (.inl h))
           · rw [size_putObj] at h; exact .inr h
         · exact .inl ((hOb k).2 (.inr h))
     | ret => exact hp.elim
     | exit id => exact hp.elim
     | goto t => exact hp.elim
     | panic ch => exact hp.elim
     | outgrown => exact hp.elim
   · rintro e W2 ⟨⟨v, rfl⟩, O', Ob, hOb, hnL, hnD, hi, hl, hd⟩
     have he := run_endLoop (P := P) hl (by rw [hrec]; simp)
     refine ⟨none, _, he.trans (by rw [hrec]), ?_⟩
     exact hdone _ Ob _ (Nat.le_refl _) hnD (put _ _ _ _ hi hnL) ((World.putObj_heap_other (by omega)).trans hd)
theorem wpIn_rangeA {α : Type} {g : Operand} {ps : Array Tmp} {assign body : Code} {Q : Exit → Act → World → Prop} {a : Act} {w : World}
   (hro : F.round = none) (h1 : 1 ≤ n) {gf : Nat} {lb : Array Value} (hg : a.eval g = .func (.func gf) #[] lb) (hFg : F.fn gf) (eg : ∀ args w, (callFunc gf args).run P w = .ok (.enter gf args) w)
   {encs : α → Array Value} {xs : List α} {D : Nat → Prop} (hseq : SeqO F (n - 1) P gf lb encs xs D w) (hps : ∀ x, (encs x).size = ps.size)
   (I : List α → (Nat → Prop) → World → Prop) (O0 : Nat → Prop) (hO0 : ∀ k, O0 k → k < w.heap.size) (hD : ∀ k, D k → k < w.heap.size ∧ ¬ O0 k)
   (hI : ∀ pre O A A', I pre O A → Only (fun k => w.heap.size ≤ k ∧ ¬ O k) A A' → I pre O A')
   (h0 : I [] O0 w) (Ax : α → Act → World → Prop) (hAx : ∀ x a V l o o', Ax x a V → V.heap[l]? = some o → o.isCells = false → Ax x a (V.putObj l o'))
   (hassign : ∀ (l : Nat) (x : α) (W : World) (K : Act → World → Prop), (∀ a' V, Only (fun _ => False) W V → Ax x a' V → K a' V) →
     assign.wpIn (F.inRound l) (n - 1 - 1) P (Exit.then K (fun _ _ _ => False)) { tmps := (ps.zip (encs x)).foldl (fun t (p, v) => t.setIfInBounds p v) a.tmps, defers := [] } W)
   (hbody : ∀ (l : Nat) (pre : List α) (O : Nat → Prop) (x : α) (a' : Act) (W : World), w.heap.size ≤ l → ¬ O l → (∃ r, W.heap[l]? = some (.loop r)) → I pre O W → (pre ++ [x]) <+: xs → Ax x a' W → body.wpIn (F.inRound l) (n - 1 - 1) P (goesO I (pre ++ [x]) O W) a' W)
   (hdone : ∀ (D : Nat) (O : Nat → Prop) (W : World), w.heap.size ≤ D → ¬ O D → I xs O W → W.heap[D]? = some (.deferred (some [])) → Q .normal { a with defers := { target := .collected D, args := #[] } :: a.defers } W) :
   (Code.rangeFunc g ps assign body).wpIn F n P Q a w := by
 refine wpIn_rangeFunc ?_
 intro fn hfn
 rw [hro]
 obtain ⟨rec, hrec⟩ : ∃ rec : LoopState → Loop, rec = fun st => { state := st, pending := none, fn, tmps := a.tmps, params := ps, assign, body, defers := w.heap.size } := ⟨_, rfl⟩
 obtain ⟨V, hV⟩ : ∃ V, (w.alloc (.deferred (some []))).alloc (.loop (rec .ready)) = V := ⟨_, rfl⟩
 have hO : Only (fun _ => False) w V := by rw [← hV]; exact ((Only.refl _ w).alloc _).alloc _
 have hsz : V.heap.size = w.heap.size + 1 + 1 := by rw [← hV]; simp
 have hL1 : V.heap[w.heap.size + 1]? = some (.loop (rec .ready)) := by
   rw [← hV]; have := World.alloc_heap_new (w.alloc (.deferred (some []))) (.loop (rec .ready)); rwa [World.size_alloc] at this
 have hD1 : V.heap[w.heap.size]? = some (.deferred (some [])) := by
   rw [← hV]; exact (Below.heap_alloc _ _ _ (by simp)).trans (World.alloc_heap_new w _)
 refine ⟨w.heap.size + 1, [{ target := .collected w.heap.size, args := #[] }], V, { target := .fn (.func gf) lb, args := #[.func (.yield (w.heap.size + 1)) #[] #[]] }, V, gf,
   #[.func (.yield (w.heap.size + 1)) #[] #[]] ++ lb, V, ?_, ?_, ?_, ?_, fun _ => h1, ?_⟩
 · rw [← hV, hrec]; exact run_enterLoop_outer _ _ _ _ _
 · simp only [resolve, hg]
   simp [go_sem]
 · intro f' hf'; simp [Target.leads] at hf'; subst hf'; exact hFg
 · simp [invoke, go_sem, eg]
 · have put : ∀ pre Ob A o', I pre Ob A → ¬ Ob (w.heap.size + 1) → I pre Ob (A.putObj (w.heap.size + 1) o') := fun pre Ob A o' hi hn =>
     hI pre Ob A _ hi ((Only.refl _ A).putObj _ _ (.inl ⟨by omega, hn⟩))
   refine (hseq (w.heap.size + 1) (fun pre O W => ∃ Ob : Nat → Prop, (∀ k, O k ↔ Ob k ∨ k = w.heap.size + 1) ∧ ¬ Ob (w.heap.size + 1) ∧ ¬ Ob w.heap.size ∧ I pre Ob W ∧ W.heap[w.heap.size + 1]? = some (.loop (rec .ready)) ∧ W.heap[w.heap.size]? = some (.deferred (some []))) (fun k => O0 k ∨ k = w.heap.size + 1) V hO ?_ ?_ ?_ ?_
     ⟨O0, fun _ => Iff.rfl, fun h => by have := hO0 _ h; omega, fun h => by have := hO0 _ h; omega, hI _ _ _ _ h0 (hO.mono (fun _ _ f => f.elim)), hL1, hD1⟩).mono ?_
   · intro k hk hor
     obtain ⟨h1, h2⟩ := hD k hk
     rcases hor with h | h
     · exact h2 h
     · omega
   · rintro k (h | h)
     · have := hO0 k h; omega
     · omega
   · rintro pre O A A' ⟨Ob, hOb, hnL, hnD, hi, hl, hd⟩ hA
     have lt : ∀ k o, A.heap[k]? = some o → k < V.heap.size → A'.heap[k]? = some o := fun k o hk hlt => (hA.block k (Array.getElem?_eq_some_iff.1 hk).1 (fun hp => by omega)).trans hk
     exact ⟨Ob, hOb, hnL, hnD, hI pre Ob A A' hi (hA.mono (fun k hk hp => ⟨by omega, fun h => hp.2 ((hOb k).2 (.inl h))⟩)), lt _ _ hl (by omega), lt _ _ hd (by omega)⟩
   · rintro pre O x W0 ⟨Ob, hOb, hnL, hnD, hi0, hl0, hd0⟩ hpre
     have hlt0 : w.heap.size + 1 < W0.heap.size := (Array.getElem?_eq_some_iff.1 hl0).1
     have hy := run_yield (P := P) (args := encs x) hl0 (by rw [hrec]; exact hps x)
     rw [hrec] at hy
     refine ⟨fn, _, assign, body, hy, roundIn_of_wpIn hfn (hassign _ x W0 _ (fun a' W hoW hax => ?_))⟩
     have hl := (hoW.block _ hlt0 (fun f => f)).trans hl0
     have hd := (hoW.block _ (Array.getElem?_eq_some_iff.1 hd0).1 (fun f => f)).trans hd0
     have hi := hI _ _ _ _ hi0 (hoW.mono (fun _ _ f => f.elim))
     have hlt : w.heap.size + 1 < W.heap.size := (Array.getElem?_eq_some_iff.1 hl).1
     refine ⟨_, run_beginRound hl (by rw [hrec]), ?_⟩
     have hl2 : (W.putObj (w.heap.size + 1) (.loop { rec .ready with state := .busy })).heap[w.heap.size + 1]? = some (.loop { rec .ready with state := .busy }) := World.putObj_heap_same hlt
     have hd2 : (W.putObj (w.heap.size + 1) (.loop { rec .ready with state := .busy })).heap[w.heap.size]? = some (.deferred (some [])) := (World.putObj_heap_other (by omega)).trans hd
     have hk2 : Only O W0 (W.putObj (w.heap.size + 1) (.loop { rec .ready with state := .busy })) := (hoW.mono (fun _ _ f => f.elim)).putObj _ _ (.inl ((hOb _).2 (.inr rfl)))
     refine wpIn_mono (hbody _ pre Ob x a' _ (by omega) hnL ⟨_, hl2⟩ (put _ _ _ _ hi hnL) hpre (hAx _ _ _ _ _ _ hax hl rfl)) ?_
     rintro e a3 W3 hp
     cases e with
     | normal =>
       obtain ⟨O2, hi3, hsub, hO3, hlt3⟩ := hp
       have keep : ∀ k o, (W.putObj (w.heap.size + 1) (.loop { rec .ready with state := .busy })).heap[k]? = some o → ¬ Ob k → W3.heap[k]? = some o := fun k o hk hn => (hO3.block k (Array.getElem?_eq_some_iff.1 hk).1 hn).trans hk
       have hl3 := keep _ _ hl2 hnL
       have hd3 := keep _ _ hd2 hnD
       have hr := run_endRound (P := P) none hl3
       have hn2 : ¬ O2 (w.heap.size + 1) := fun h => by
         rcases hsub _ h with h | h
         · exact hnL h
         · rw [size_putObj] at h; omega
       have hn3 : ¬ O2 w.heap.size := fun h => by
         rcases hsub _ h with h | h
         · exact hnD h
         · rw [size_putObj] at h; omega
       refine ⟨_, _, hr, rfl, fun k => O2 k ∨ k = w.heap.size + 1, ⟨O2, fun _ => Iff.rfl, hn2, hn3, put _ _ _ _ hi3 hn2, ?_, (World.putObj_heap_other (by omega)).trans hd3⟩, ?_, (hk2.trans (hO3.mono (fun k _ h => (hOb k).2 (.inl h)))).putObj _ _ (.inl ((hOb _).2 (.inr rfl))), fun k hk => by
         rw [size_putObj]
         rcases hk with h | h
         · exact hlt3 k h
         · rw [h]; exact (Array.getElem?_eq_some_iff.1 hl3).1⟩
       · rw [World.putObj_heap_same (Array.getElem?_eq_some_iff.1 hl3).1, hrec]
         rfl
       · rintro k (h | h)
         · rcases hsub k h with h | h
           · exact .inl ((hOb k).2 (.inl h))
           · rw [size_putObj] at h; exact .inr (Nat.le_trans hoW.size h)
         · exact .inl ((hOb k).2 (.inr h))
     | ret => exact hp.elim
     | exit id => exact hp.elim
     | goto t => exact hp.elim
     | panic ch => exact hp.elim
     | outgrown => exact hp.elim
   · rintro e W2 ⟨⟨v, rfl⟩, O', Ob, hOb, hnL, hnD, hi, hl, hd⟩
     have he := run_endLoop (P := P) hl (by rw [hrec]; simp)
     refine ⟨none, _, he.trans (by rw [hrec]), ?_⟩
     exact hdone _ Ob _ (Nat.le_refl _) hnD (put _ _ _ _ hi hnL) ((World.putObj_heap_other (by omega)).trans hd)
theorem wpIn_rangeN {α : Type} {g : Operand} {ps : Array Tmp} {assign body : Code} {Q : Exit → Act → World → Prop} {a : Act} {w : World}
   {l₀ : Nat} {r₀ : Loop} (hro : F.round = some l₀) (hl₀ : w.heap[l₀]? = some (.loop r₀)) (h1 : 1 ≤ n) {gf : Nat} {lb : Array Value} (hg : a.eval g = .func (.func gf) #[] lb) (hFg : F.fn gf) (eg : ∀ args w, (callFunc gf args).run P w = .ok (.enter gf args) w)
   {encs : α → Array Value} {xs : List α} {D : Nat → Prop} (hseq : SeqO F (n - 1) P gf lb encs xs D w) (hps : ∀ x, (encs x).size = ps.size)
   (I : List α → (Nat → Prop) → World → Prop) (O0 : Nat → Prop) (hO0 : ∀ k, O0 k → k < w.heap.size) (hD : ∀ k, D k → k < w.heap.size ∧ ¬ O0 k)
   (hI : ∀ pre O A A', I pre O A → Only (fun k => w.heap.size ≤ k ∧ ¬ O k) A A' → I pre O A')
   (h0 : I [] O0 w) (a₁ : α → Act)
   (hassign : ∀ (l : Nat) (x : α) (W : World) (K : Act → World → Prop), K (a₁ x) W →
     assign.wpIn (F.inRound l) (n - 1 - 1) P (Exit.then K (fun _ _ _ => False)) { tmps := (ps.zip (encs x)).foldl (fun t (p, v) => t.setIfInBounds p v) a.tmps, defers := [] } W)
   (hbody : ∀ (l : Nat) (pre : List α) (O : Nat → Prop) (x : α) (W : World), w.heap.size ≤ l → ¬ O l → (∃ r, W.heap[l]? = some (.loop r)) → I pre O W → (pre ++ [x]) <+: xs → body.wpIn (F.inRound l) (n - 1 - 1) P (goesO I (pre ++ [x]) O W) (a₁ x) W)
   (hdone : ∀ (O : Nat → Prop) (W : World), I xs O W → Q .normal a W) :
   (Code.rangeFunc g ps assign body).wpIn F n P Q a w := by
 refine wpIn_rangeFunc ?_
 intro fn hfn
 rw [hro]
 obtain ⟨rec, hrec⟩ : ∃ rec : LoopState → Loop, rec = fun st => { state := st, pending := none, fn, tmps := a.tmps, params := ps, assign, body, defers := r₀.defers } := ⟨_, rfl⟩
 obtain ⟨V, hV⟩ : ∃ V, w.alloc (.loop (rec .ready)) = V := ⟨_, rfl⟩
 have hO : Only (fun _ => False) w V := by rw [← hV]; exact (Only.refl _ w).alloc _
 have hsz : V.heap.size = w.heap.size + 1 := by rw [← hV]; simp
 have hL1 : V.heap[w.heap.size]? = some (.loop (rec .ready)) := by rw [← hV]; exact World.alloc_heap_new w _
 refine ⟨w.heap.size, [], V, { target := .fn (.func gf) lb, args := #[.func (.yield w.heap.size) #[] #[]] }, V, gf,
   #[.func (.yield w.heap.size) #[] #[]] ++ lb, V, ?_, ?_, ?_, ?_, fun _ => h1, ?_⟩
 · rw [← hV, hrec]; exact run_enterLoop_inner hl₀ _ _ _ _ _
 · simp only [resolve, hg]
   simp [go_sem]
 · intro f' hf'; simp [Target.leads] at hf'; subst hf'; exact hFg
 · simp [invoke, go_sem, eg]
 · have put : ∀ pre Ob A o', I pre Ob A → ¬ Ob w.heap.size → I pre Ob (A.putObj w.heap.size o') := fun pre Ob A o' hi hn =>
     hI pre Ob A _ hi ((Only.refl _ A).putObj _ _ (.inl ⟨by omega, hn⟩))
   refine (hseq w.heap.size (fun pre O W => ∃ Ob : Nat → Prop, (∀ k, O k ↔ Ob k ∨ k = w.heap.size) ∧ ¬ Ob w.heap.size ∧ I pre Ob W ∧ W.heap[w.heap.size]? = some (.loop (rec .ready))) (fun k => O0 k ∨ k = w.heap.size) V hO ?_ ?_ ?_ ?_
     ⟨O0, fun _ => Iff.rfl, fun h => by have := hO0 _ h; omega, hI _ _ _ _ h0 (hO.mono (fun _ _ f => f.elim)), hL1⟩).mono ?_
   · intro k hk hor
     obtain ⟨h1, h2⟩ := hD k hk
     rcases hor with h | h
     · exact h2 h
     · omega
   · rintro k (h | h)
     · have := hO0 k h; omega
     · omega
   · rintro pre O A A' ⟨Ob, hOb, hnL, hi, hl⟩ hA
     have lt : ∀ k o, A.heap[k]? = some o → k < V.heap.size → A'.heap[k]? = some o := fun k o hk hlt => (hA.block k (Array.getElem?_eq_some_iff.1 hk).1 (fun hp => by omega)).trans hk
     exact ⟨Ob, hOb, hnL, hI pre Ob A A' hi (hA.mono (fun k hk hp => ⟨by omega, fun h => hp.2 ((hOb k).2 (.inl h))⟩)), lt _ _ hl (by omega)⟩
   · rintro pre O x W ⟨Ob, hOb, hnL, hi, hl⟩ hpre
     have hlt : w.heap.size < W.heap.size := (Array.getElem?_eq_some_iff.1 hl).1
     have hy := run_yield (P := P) (args := encs x) hl (by rw [hrec]; exact hps x)
     rw [hrec] at hy
     refine ⟨fn, _, assign, body, hy, roundIn_of_wpIn hfn (hassign _ x W _ ⟨_, run_beginRound hl (by rw [hrec]), ?_⟩)⟩
     have hl2 : (W.putObj w.heap.size (.loop { rec .ready with state := .busy })).heap[w.heap.size]? = some (.loop { rec .ready with state := .busy }) := World.putObj_heap_same hlt
     have hs2 : (W.putObj w.heap.size (.loop { rec .ready with state := .busy })).heap.size = W.heap.size := by simp [World.putObj]
     have hk2 : Only O W (W.putObj w.heap.size (.loop { rec .ready with state := .busy })) := (Only.refl _ W).putObj _ _ (.inl ((hOb _).2 (.inr rfl)))
     refine wpIn_mono (hbody _ pre Ob x _ (by omega) hnL ⟨_, hl2⟩ (put _ _ _ _ hi hnL) hpre) ?_
     rintro e a3 W3 hp
     cases e with
     | normal =>
       obtain ⟨O2, hi3, hsub, hO3, hlt3⟩ := hp
       have hl3 : W3.heap[w.heap.size]? = some (.loop { rec .ready with state := .busy }) := (hO3.block _ (Array.getElem?_eq_some_iff.1 hl2).1 hnL).trans hl2
       have hr := run_endRound (P := P) none hl3
       have hn2 : ¬ O2 w.heap.size := fun h => by
         rcases hsub _ h with h | h
         · exact hnL h
         · rw [size_putObj] at h; omega
       refine ⟨_, _, hr, rfl, fun k => O2 k ∨ k = w.heap.size, ⟨O2, fun _ => Iff.rfl, hn2, put _ _ _ _ hi3 hn2, ?_⟩, ?_, (hk2.trans (hO3.mono (fun k _ h => (hOb k).2 (.inl h)))).putObj _ _ (.inl ((hOb _).2 (.inr rfl))), fun k hk => by
         rw [size_putObj]
         rcases hk with h | h
         · exact hlt3 k h
         · rw [h]; exact (Array.getElem?_eq_some_iff.1 hl3).1⟩
       · rw [World.putObj_heap_same (Array.getElem?_eq_some_iff.1 hl3).1, hrec]
         rfl
       · rintro k (h | h)
         · rcases hsub k h with h | h
           · exact .inl ((hOb k).2 (.inl h))
           · rw [size_putObj] at h; exact .inr h
         · exact .inl ((hOb k).2 (.inr h))
     | ret => exact hp.elim
     | exit id => exact hp.elim
     | goto t => exact hp.elim
     | panic ch => exact hp.elim
     | outgrown => exact hp.elim
   · rintro e W2 ⟨⟨v, rfl⟩, O', Ob, hOb, hnL, hi, hl⟩
     have he := run_endLoop (P := P) hl (by rw [hrec]; simp)
     exact ⟨none, _, he.trans (by rw [hrec]), hdone Ob _ (put _ _ _ _ hi hnL)⟩
end Go.Proofs.YtnagphodmfejiaaGreatDoor
namespace Go.Proofs.YtnagphodmfejiaaGreatDoor
open Go.RowKit Go.Shelf
attribute [local go_sem] Oper.semAt_some
namespace Pro
def letM (s : ByteArray) : Nat → Nat → List (Int × Int)
 | 0, _ => []
 | f + 1, p => match readM s p with
   | none => []
   | some (n, c) => ((p : Int), c) :: letM s f n
end Pro
theorem MacAt.keepT {w w' : World} {b : Nat} {s : ByteArray} {nx p : Nat} {ch : Int} (h : MacAt w b s nx p ch) (k : KeepT w w') : MacAt w' b s nx p ch := by
 have e := k.same b ⟨s, h.c0⟩
 exact ⟨(World.cell?_of_block (w := w) (a := ⟨b, 0, none⟩) e).trans h.c0, (World.cell?_of_block (w := w) (a := ⟨b, 1, none⟩) e).trans h.c1, (World.cell?_of_block (w := w) (a := ⟨b, 2, none⟩) e).trans h.c2, (World.cell?_of_block (w := w) (a := ⟨b, 3, none⟩) e).trans h.c3,
   (World.frozen?_of_block (w := w) (a := ⟨b, 1, none⟩) e).trans h.f1, (World.frozen?_of_block (w := w) (a := ⟨b, 2, none⟩) e).trans h.f2, (World.frozen?_of_block (w := w) (a := ⟨b, 3, none⟩) e).trans h.f3⟩
def macN (w : World) (b : Nat) : Nat := match w.cell? ⟨b, 1, none⟩ with
 | some (.int _ n) => n.toNat
 | _ => 0
theorem mac_num {w : World} {b : Nat} {s : ByteArray} {nx p : Nat} {ch : Int} (h : MacAt w b s nx p ch) : macN w b = nx := by unfold macN; rw [h.c1]; simp
theorem readM_in {s : ByteArray} {p n : Nat} {c : Int} (h : Pro.readM s p = some (n, c)) : p < n ∧ n ≤ s.size ∧ 0 ≤ c ∧ c ≤ 1114111 := by
 by_cases hp : p < s.size
 · rw [Eqv.read_one hp] at h
   cases h1 : Ref.oneF s p with
   | none => rw [h1] at h; cases h
   | some nc =>
     obtain ⟨m, d⟩ := nc
     rw [h1] at h
     simp only [Eqv.ahead, Option.some.injEq, Prod.mk.injEq] at h
     obtain ⟨rfl, rfl⟩ := h
     have := Ref.oneF_bd h1
     exact ⟨by omega, by omega, by omega, by omega⟩
 · unfold Pro.readM at h; rw [if_neg hp] at h; cases h
theorem letM_eq (s : ByteArray) : ∀ (f p : Nat), Pro.letM s f p = Eqv.letF s f p
 | 0, _ => rfl
 | f + 1, p => by
   unfold Pro.letM Eqv.letF
   by_cases hp : p < s.size
   · rw [if_pos hp, Eqv.read_one hp]
     cases h1 : Ref.oneF s p with
     | none => rfl
     | some nc =>
       obtain ⟨m, d⟩ := nc
       simp only [Eqv.ahead]
       rw [letM_eq s f (p + m)]
   · rw [if_neg hp]
     unfold Pro.readM
     rw [if_neg hp]
theorem read_yes {b : Nat} {s : ByteArray} {nx p q : Nat} {ch c : Int} {w : World} (h : MacAt w b s nx p ch) (hs : s.size ≤ 400) (hn : nx ≤ s.size) (hr : Pro.readM s nx = some (q, c)) :
   Calls Tryz.prog 137 #[.pointer (some ⟨b, 0, none⟩)] w fun x w' => x = .returned (.bool true) ∧ MacAt w' b s q nx c ∧ Only (Mine b) w w' := by
 refine (read_any b s nx p ch w h hs hn).mono ?_
 rintro e w1 ⟨hO1, h1⟩
 rcases h1 with ⟨q1, c1, e1, rfl, hM1⟩ | ⟨e1, _⟩
 · rw [hr] at e1
   obtain ⟨rfl, rfl⟩ := Prod.mk.inj (Option.some.inj e1)
   exact ⟨rfl, hM1, hO1⟩
 · rw [hr] at e1; cases e1
theorem read_no {b : Nat} {s : ByteArray} {nx p : Nat} {ch : Int} {w : World} (h : MacAt w b s nx p ch) (hs : s.size ≤ 400) (hn : nx ≤ s.size) (hr : Pro.readM s nx = none) :
   Calls Tryz.prog 137 #[.pointer (some ⟨b, 0, none⟩)] w fun x w' => x = .returned (.bool false) ∧ Only (Mine b) w w' := by
 refine (read_any b s nx p ch w h hs hn).mono ?_
 rintro e w1 ⟨hO1, h1⟩
 rcases h1 with ⟨q1, c1, e1, rfl, hM1⟩ | ⟨_, rfl⟩
 · rw [hr] at e1; cases e1
 · exact ⟨rfl, hO1⟩
set_option maxHeartbeats 4000000 in
set_option maxRecDepth 1000000 in
theorem each_seq (s : ByteArray) (hs : s.size ≤ 400) (kb : Nat) (w0 : World) (hkb : w0.cell? ⟨kb, 0, none⟩ = some (.string s)) (n : Nat) (hn1 : 1 ≤ n) :
   SeqT Fence.wide n Tryz.prog 136 #[.pointer (some ⟨kb, 0, none⟩)] (fun x : Int × Int => #[.int .i64 x.1, .int .i32 x.2]) (Pro.letM s (s.size + 1) 0) w0 := by
 intro l J W hO hJ hY h0
 have hk := (hO.cell (p := ⟨kb, 0, none⟩) (World.block_lt_of_cell? w0 _ hkb) (fun f => f)).trans hkb
 refine callsIn_of_wp Tryz.func136 rfl trivial ?_ rfl
 simp only [Tryz.ntmps136, List.size_toArray, List.length_cons, List.length_nil, Nat.reduceAdd, Nat.reduceSub, Array.replicate_succ, Array.replicate_zero, List.push_toArray, List.append_toArray, List.nil_append, List.cons_append]
 have hm0 : MacAt (W.alloc (.cells #[.string s, .int .i64 0, .int .i64 0, .int .i32 0] 290)) W.heap.size s 0 0 0 := ⟨new_cell W _ rfl _ _ 0 _ rfl, new_cell W _ rfl _ _ 1 _ rfl, new_cell W _ rfl _ _ 2 _ rfl, new_cell W _ rfl _ _ 3 _ rfl, new_frozen W _ rfl _ _ 1, new_frozen W _ rfl _ _ 2, new_frozen W _ rfl _ _ 3⟩
 have HJ := hide hJ
 have HY := hide hY
 clear hJ hY
 gi_wp2
 gi_loopw [6] (fun _ wr => ∃ (pre : List (Int × Int)) (f p p' : Nat) (ch : Int), MacAt wr W.heap.size s p p' ch ∧ p ≤ s.size ∧ Hid (s.size < p + f) ∧ Hid (pre ++ Pro.letM s f p = Pro.letM s (s.size + 1) 0) ∧ Hid (J pre wr)) (fun _ wr => s.size + 1 - macN wr W.heap.size)
 case atStart => exact ⟨[], s.size + 1, 0, 0, 0, hm0, by omega, (by show _ < _; omega), rfl, unhide HJ _ _ _ h0 ((Only.refl _ W).alloc _)⟩
 case round =>
   obtain ⟨pre, f, p, p', ch, hM, hp, hf, hx, hj⟩ := hrel
   obtain ⟨f, rfl⟩ : ∃ f', f = f' + 1 := ⟨f - 1, by have := unhide hf; omega⟩
   have HM := hide hM
   have hms := mac_num hM
   clear hM
   cases hr : Pro.readM s p with
   | none =>
     have HE : Hid (pre = Pro.letM s (s.size + 1) 0) := by
       have := unhide hx
       simp only [Pro.letM] at this
       rw [hr, List.append_nil] at this
       exact this
     gi_wp2_with (refine ⟨trivial, ?_⟩; gi_at_call 137; refine (callsIn_wide.2 (read_no (unhide HM) hs hp hr)).mono ?_; rintro e w1 ⟨rfl, hO1⟩)
     refine ⟨fun _ h => (by cases h), ?_⟩
     have hJ1 := unhide HJ pre _ w1 (unhide hj) (hO1.mono (fun k _ hk => ⟨by unfold Mine at hk; omega, by unfold Mine at hk; rw [hk]; exact ⟨s, (unhide HM).c0⟩⟩))
     gi_wp2
     go_end0
     exact ⟨⟨_, rfl⟩, by rw [← unhide HE]; exact hJ1⟩
   | some qc =>
     obtain ⟨q, c⟩ := qc
     have HX : Hid (pre ++ [((p : Int), c)] ++ Pro.letM s f q = Pro.letM s (s.size + 1) 0) := by
       have e : Pro.letM s (f + 1) p = ((p : Int), c) :: Pro.letM s f q := by simp only [Pro.letM]; rw [hr]
       have := unhide hx
       rw [e] at this
       show _ = _
       rw [← this]; simp
     have hin := readM_in hr
     gi_wp2_with (refine ⟨trivial, ?_⟩; gi_at_call 137; refine (callsIn_wide.2 (read_yes (unhide HM) hs hp hr)).mono ?_; rintro e w1 ⟨rfl, hM1, hO1⟩; have hJ1 := unhide HJ pre _ w1 (unhide hj) (hO1.mono (fun k _ hk => ⟨by unfold Mine at hk; omega, by unfold Mine at hk; rw [hk]; exact ⟨s, (unhide HM).c0⟩⟩)); obtain ⟨fn, tmps, assign, body, hy, hR⟩ := unhide HY pre ((p : Int), c) w1 hJ1 ⟨Pro.letM s f q, unhide HX⟩; dsimp only at hy; have HM1 := hide hM1; obtain ⟨d0, d1, d2, d3, g1, g2, g3⟩ := hM1)
     refine hR.mono ?_
     rintro e W3 ⟨rfl, hJ3, hk3⟩
     have hM3 := (unhide HM1).keepT hk3
     have hn3 := mac_num hM3
     gi_wp2
     exact ⟨⟨pre ++ [((p : Int), c)], f, q, p, c, hM3, by omega, (by show _ < _; have : _ < _ := unhide hf; omega), HX, hJ3⟩, by rw [hn3, hms]; omega⟩
set_option maxHeartbeats 800000 in
theorem each_any (s : ByteArray) (w : World) :
   Calls Tryz.prog 84 #[.string s] w fun x w' => x = .returned (.func (.func 136) #[] #[.pointer (some ⟨w.heap.size, 0, none⟩)]) ∧ w' = w.alloc (.cells #[.string s] 9) := by
 go_enter Tryz.func84, Tryz.ntmps84
 go_wp2_with fail
 go_ret
 exact ⟨rfl, rfl⟩
namespace Pro
def runeN (c : Int) : Int := if c ≤ 127 then 1 else if c ≤ 2047 then 2 else if c ≤ 65535 then 3 else 4
end Pro
set_option maxHeartbeats 800000 in
theorem runeLen_any (c : Int) (w : World) (h0 : 0 ≤ c) (h1 : c ≤ 1114111) (h2 : ¬ (55296 ≤ c ∧ c ≤ 57343)) :
   Calls Tryz.prog 85 #[.int .i32 c] w fun x w' => x = .returned (.int .i64 (Pro.runeN c)) ∧ w' = w := by
 by_cases a1 : c ≤ 127
 · have HR : Hid (Pro.runeN c = 1) := by unfold Pro.runeN; rw [if_pos a1]; rfl
   go_enter Tryz.func85, Tryz.ntmps85
   go_wp2_with fail
   go_ret
   rw [unhide HR]; exact ⟨rfl, rfl⟩
 · by_cases a2 : c ≤ 2047
   · have HR : Hid (Pro.runeN c = 2) := by unfold Pro.runeN; rw [if_neg a1, if_pos a2]; rfl
     go_enter Tryz.func85, Tryz.ntmps85
     go_wp2_with fail
     go_ret
     rw [unhide HR]; exact ⟨rfl, rfl⟩
   · by_cases a3 : c ≤ 65535
     · have HR : Hid (Pro.runeN c = 3) := by unfold Pro.runeN; rw [if_neg a1, if_neg a2, if_pos a3]; rfl
       by_cases a4 : 55296 ≤ c
       · have a5 : ¬ c ≤ 57343 := fun h => h2 ⟨a4, h⟩
         clear h2
         go_enter Tryz.func85, Tryz.ntmps85
         go_wp2_with fail
         go_ret
         rw [unhide HR]; exact ⟨rfl, rfl⟩
       · clear h2
         go_enter Tryz.func85, Tryz.ntmps85
         go_wp2_with fail
         go_ret
         rw [unhide HR]; exact ⟨rfl, rfl⟩
     · have HR : Hid (Pro.runeN c = 4) := by unfold Pro.runeN; rw [if_neg a1, if_neg a2, if_neg a3]; rfl
       clear h2
       go_enter Tryz.func85, Tryz.ntmps85
       go_wp2_with fail
       go_ret
       rw [unhide HR]; exact ⟨rfl, rfl⟩
theorem one_len {s : ByteArray} {p n : Nat} {c : Int} (h : Ref.oneF s p = some (n, c)) : Pro.runeN c = (n : Int) := by
 obtain ⟨h1, h2, h3, h4, _⟩ := Ref.oneF_bd h
 have hb0 := (byteAt_nonneg s p).2 (by omega)
 have hb1 := byteAt_hi s p
 have cases4 : n = 1 ∨ n = 2 ∨ n = 3 ∨ n = 4 := by omega
 have hk : Ref.headN (byteAt s p) = (n : Int) := by rw [Ref.headK_cast, ← h4]
 unfold Ref.headN at hk
 by_cases b1 : byteAt s p < 128
 · rw [Ref.oneF_ascii hb0 b1] at h
   obtain ⟨rfl, rfl⟩ := Prod.mk.inj (Option.some.inj h)
   unfold Pro.runeN; rw [if_pos (by omega)]; rfl
 · rw [if_neg (by omega)] at hk
   by_cases b2 : 192 ≤ byteAt s p ∧ byteAt s p < 224
   · obtain ⟨y, nn⟩ := Eqv.one_two b2
     by_cases hc : Eqv.cont (byteAt s (p + 1))
     · rw [y hc] at h
       split at h
       · cases h
       · rename_i hb
         rw [Eqv.bad_iff] at hb
         obtain ⟨rfl, rfl⟩ := Prod.mk.inj (Option.some.inj h)
         have l2 : Ref.leastV ((2 : Nat) : Int) = 128 := rfl
         rw [l2] at hb
         unfold Eqv.cont at hc
         unfold Pro.runeN; rw [if_neg (by omega), if_pos (by omega)]; rfl
     · rw [nn hc] at h; cases h
   · by_cases b3 : 224 ≤ byteAt s p ∧ byteAt s p < 240
     · obtain ⟨y, nn⟩ := Eqv.one_three b3
       by_cases hc : Eqv.cont (byteAt s (p + 1)) ∧ Eqv.cont (byteAt s (p + 2))
       · rw [y hc] at h
         split at h
         · cases h
         · rename_i hb
           rw [Eqv.bad_iff] at hb
           obtain ⟨rfl, rfl⟩ := Prod.mk.inj (Option.some.inj h)
           have l2 : Ref.leastV ((3 : Nat) : Int) = 2048 := rfl
           rw [l2] at hb
           unfold Eqv.cont at hc
           unfold Pro.runeN; rw [if_neg (by omega), if_neg (by omega), if_pos (by omega)]; rfl
       · rw [nn hc] at h; cases h
     · by_cases b4 : 240 ≤ byteAt s p ∧ byteAt s p < 248
       · obtain ⟨y, nn⟩ := Eqv.one_four b4
         by_cases hc : Eqv.cont (byteAt s (p + 1)) ∧ Eqv.cont (byteAt s (p + 2)) ∧ Eqv.cont (byteAt s (p + 3))
         · rw [y hc] at h
           split at h
           · cases h
           · rename_i hb
             rw [Eqv.bad_iff] at hb
             obtain ⟨rfl, rfl⟩ := Prod.mk.inj (Option.some.inj h)
             have l2 : Ref.leastV ((4 : Nat) : Int) = 65536 := rfl
             rw [l2] at hb
             unfold Eqv.cont at hc
             unfold Pro.runeN; rw [if_neg (by omega), if_neg (by omega), if_neg (by omega)]; rfl
         · rw [nn hc] at h; cases h
       · rw [if_neg b2, if_neg b3, if_neg b4] at hk; omega
end Go.Proofs.YtnagphodmfejiaaGreatDoor
