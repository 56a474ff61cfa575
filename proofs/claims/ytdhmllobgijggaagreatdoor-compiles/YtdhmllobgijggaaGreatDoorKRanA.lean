/- A loop over an iterator that keeps its state in cells of its own. -/
import Derived.Test.YtdhmllobgijggaaGreatDoorKBase
import Derived.RangeFuncWrites
import Derived.RangeFuncCalls
namespace Go.Proofs.YtdhmllobgijggaaGreatDoor
open Go.RowKit

theorem Only.putObj {P : Nat → Prop} {a w : World} (h : Only P a w) (l : Nat) (o : Obj) (hp : P l ∨ a.heap.size ≤ l) : Only P a (w.putObj l o) :=
  ⟨h.os, h.tape, h.output, Nat.le_trans h.size (by simp [World.putObj]), fun k hk hn => (World.putObj_heap_other (by
    rintro rfl
    rcases hp with hp | hp
    · exact hn hp
    · omega)).trans (h.block k hk hn)⟩

/-- A block whose first cell holds a text. -/
def strB (A : World) (k : Nat) : Prop := ∃ s, A.cell? ⟨k, 0, none⟩ = some (.string s)

theorem strB_cells {A : World} {k : Nat} {o : Obj} (h : A.heap[k]? = some o) (ho : o.isCells = false) : ¬ strB A k := by
  rintro ⟨s, hs⟩
  unfold World.cell? at hs
  rw [h] at hs
  cases o with
  | cells c T f => simp [Obj.isCells] at ho
  | _ => simp at hs

/-- What a round keeps for the iterator. -/
structure KeepT (W W' : World) : Prop where
  size : W.heap.size ≤ W'.heap.size
  same : ∀ (k : Nat), strB W k → W'.heap[k]? = W.heap[k]?

theorem KeepT.trans {A B C : World} (h : KeepT A B) (k : KeepT B C) : KeepT A C := ⟨Nat.le_trans h.size k.size, fun i hi => (k.same i (by
  obtain ⟨s, hs⟩ := hi
  exact ⟨s, (World.cell?_of_block (w := A) (h.same i ⟨s, hs⟩)).trans hs⟩)).trans (h.same i hi)⟩

theorem KeepT.putObj (W : World) (l : Nat) (o o' : Obj) (ho : W.heap[l]? = some o) (hc : o.isCells = false) : KeepT W (W.putObj l o') :=
  ⟨by simp [World.putObj], fun k hk => World.putObj_heap_other (by
    rintro rfl
    exact strB_cells ho hc hk)⟩

/-- The iterator's word: it hands out xs, one by one, to whatever body goes on. -/
def SeqT {α : Type} (F : Fence) (n : Nat) (P : Program) (gf : Nat) (lb : Array Value) (encs : α → Array Value) (xs : List α) (w0 : World) : Prop :=
  ∀ (l : Nat) (J : List α → World → Prop) (W : World), Only (fun _ => False) w0 W →
    (∀ pre A A', J pre A → Only (fun k => W.heap.size ≤ k ∧ strB A k) A A' → J pre A') →
    (∀ pre x A, J pre A → (pre ++ [x]) <+: xs → YieldAt F (n - 1) P l (encs x) A fun e A' => e = .returned (.bool true) ∧ J (pre ++ [x]) A' ∧ KeepT A A') →
    J [] W → CallsIn F n P gf (#[.func (.yield l) #[] #[]] ++ lb) W fun e W' => (∃ v, e = .returned v) ∧ J xs W'

/-- How a body that never leaves is left. -/
def goesPost {α : Type} (B : Nat) (I : List α → World → Prop) (xs : List α) (W : World) : Exit → Act → World → Prop
  | .normal, _, W' => KeepsFrom B W W' ∧ KeepT W W' ∧ I xs W'
  | _, _, _ => False

variable {F : Fence} {n : Nat} {P : Program}

theorem wpIn_rangeT {α : Type} {g : Operand} {ps : Array Tmp} {assign body : Code} {Q : Exit → Act → World → Prop} {a : Act} {w : World}
    (hro : F.round = none) (h1 : 1 ≤ n) {gf : Nat} {lb : Array Value} (hg : a.eval g = .func (.func gf) #[] lb) (hFg : F.fn gf) (eg : ∀ args w, (callFunc gf args).run P w = .ok (.enter gf args) w)
    {encs : α → Array Value} {xs : List α} (hseq : SeqT F (n - 1) P gf lb encs xs w) (hps : ∀ x, (encs x).size = ps.size)
    (I : List α → World → Prop)
    (hI : ∀ pre A A', I pre A → Only (fun k => w.heap.size ≤ k ∧ (strB A k ∨ ∃ o, A.heap[k]? = some o ∧ o.isCells = false)) A A' → I pre A')
    (h0 : I [] w) (a₁ : α → Act)
    (hassign : ∀ (l : Nat) (x : α) (W : World) (K : Act → World → Prop), K (a₁ x) W →
      assign.wpIn (F.inRound l) (n - 1 - 1) P (Exit.then K (fun _ _ _ => False)) { tmps := (ps.zip (encs x)).foldl (fun t (p, v) => t.setIfInBounds p v) a.tmps, defers := [] } W)
    (hbody : ∀ (l : Nat) (pre : List α) (x : α) (W : World), I pre W → (pre ++ [x]) <+: xs → body.wpIn (F.inRound l) (n - 1 - 1) P (goesPost w.heap.size I (pre ++ [x]) W) (a₁ x) W)
    (hdone : ∀ (D : Nat) (W : World), w.heap.size ≤ D → I xs W → W.heap[D]? = some (.deferred (some [])) → Q .normal { a with defers := { target := .collected D, args := #[] } :: a.defers } W) :
    (Code.rangeFunc g ps assign body).wpIn F n P Q a w := by
  refine wpIn_rangeFunc ?_
  intro fn hfn
  rw [hro]
  obtain ⟨rec, hrec⟩ : ∃ rec : LoopState → Loop, rec = fun st => { state := st, pending := none, fn, tmps := a.tmps, params := ps, assign, body, defers := w.heap.size } := ⟨_, rfl⟩
  obtain ⟨V, hV⟩ : ∃ V, (w.alloc (.deferred (some []))).alloc (.loop (rec .ready)) = V := ⟨_, rfl⟩
  have hO : Only (fun _ => False) w V := by rw [← hV]; exact ((Only.refl _ w).alloc _).alloc _
  have hsz : V.heap.size = w.heap.size + 1 + 1 := by rw [← hV]; simp
  have hL1 : V.heap[w.heap.size + 1]? = some (.loop (rec .ready)) := by
    rw [← hV]; have := World.alloc_heap_new (w.alloc (.deferred (some []))) (.loop (rec .ready)); rwa [World.size_alloc] at this
  have hD1 : V.heap[w.heap.size]? = some (.deferred (some [])) := by
    rw [← hV]; exact (Below.heap_alloc _ _ _ (by simp)).trans (World.alloc_heap_new w _)
  refine ⟨w.heap.size + 1, [{ target := .collected w.heap.size, args := #[] }], V, { target := .fn (.func gf) lb, args := #[.func (.yield (w.heap.size + 1)) #[] #[]] }, V, gf,
    #[.func (.yield (w.heap.size + 1)) #[] #[]] ++ lb, V, ?_, ?_, ?_, ?_, fun _ => h1, ?_⟩
  · rw [← hV, hrec]; exact run_enterLoop_outer _ _ _ _ _
  · simp only [resolve, hg]
    simp [go_sem]
  · intro f' hf'; simp [Target.leads] at hf'; subst hf'; exact hFg
  · simp [invoke, go_sem, eg]
  · have put : ∀ pre A o o', I pre A → A.heap[w.heap.size + 1]? = some o → o.isCells = false → I pre (A.putObj (w.heap.size + 1) o') := fun pre A o o' hi ho hc =>
      hI pre A _ hi ((Only.refl _ A).putObj _ _ (.inl ⟨by omega, .inr ⟨o, ho, hc⟩⟩))
    refine (hseq (w.heap.size + 1) (fun pre W => I pre W ∧ W.heap[w.heap.size + 1]? = some (.loop (rec .ready)) ∧ W.heap[w.heap.size]? = some (.deferred (some []))) V hO ?_ ?_ ⟨hI _ _ _ h0 (hO.mono (fun _ _ f => f.elim)), hL1, hD1⟩).mono ?_
    · rintro pre A A' ⟨hi, hl, hd⟩ hA
      have lt : ∀ k o, A.heap[k]? = some o → k < V.heap.size → A'.heap[k]? = some o := fun k o hk hlt => (hA.block k (Array.getElem?_eq_some_iff.1 hk).1 (fun hp => by omega)).trans hk
      exact ⟨hI pre A A' hi (hA.mono (fun k hk hp => ⟨by omega, .inl hp.2⟩)), lt _ _ hl (by omega), lt _ _ hd (by omega)⟩
    · rintro pre x W ⟨hi, hl, hd⟩ hpre
      have hlt : w.heap.size + 1 < W.heap.size := (Array.getElem?_eq_some_iff.1 hl).1
      have hy := run_yield (P := P) (args := encs x) hl (by rw [hrec]; exact hps x)
      rw [hrec] at hy
      refine ⟨fn, _, assign, body, hy, roundIn_of_wpIn hfn (hassign _ x W _ ⟨_, run_beginRound hl (by rw [hrec]), ?_⟩)⟩
      have hl2 : (W.putObj (w.heap.size + 1) (.loop { rec .ready with state := .busy })).heap[w.heap.size + 1]? = some (.loop { rec .ready with state := .busy }) := World.putObj_heap_same hlt
      have hd2 : (W.putObj (w.heap.size + 1) (.loop { rec .ready with state := .busy })).heap[w.heap.size]? = some (.deferred (some [])) := (World.putObj_heap_other (by omega)).trans hd
      have hk2 : KeepT W (W.putObj (w.heap.size + 1) (.loop { rec .ready with state := .busy })) := KeepT.putObj _ _ _ _ hl rfl
      refine wpIn_mono (hbody _ pre x _ (put _ _ _ _ hi hl rfl) hpre) ?_
      rintro e a3 W3 hp
      cases e with
      | normal =>
        obtain ⟨hk3, hkt3, hi3⟩ := hp
        have hl3 := hk3.same _ _ (by omega) hl2 rfl
        have hd3 := hk3.same _ _ (Nat.le_refl _) hd2 rfl
        have hr := run_endRound (P := P) none hl3
        refine ⟨_, _, hr, rfl, ⟨put _ _ _ _ hi3 hl3 rfl, ?_, (World.putObj_heap_other (by omega)).trans hd3⟩, (hk2.trans hkt3).trans (KeepT.putObj _ _ _ _ hl3 rfl)⟩
        rw [World.putObj_heap_same (Array.getElem?_eq_some_iff.1 hl3).1, hrec]
        rfl
      | ret => exact hp.elim
      | exit id => exact hp.elim
      | goto t => exact hp.elim
      | panic ch => exact hp.elim
      | outgrown => exact hp.elim
    · rintro e W2 ⟨⟨v, rfl⟩, hi, hl, hd⟩
      have he := run_endLoop (P := P) hl (by rw [hrec]; simp)
      refine ⟨none, _, he.trans (by rw [hrec]), ?_⟩
      exact hdone _ _ (Nat.le_refl _) (put _ _ _ _ hi hl rfl) ((World.putObj_heap_other (by omega)).trans hd)
end Go.Proofs.YtdhmllobgijggaaGreatDoor
