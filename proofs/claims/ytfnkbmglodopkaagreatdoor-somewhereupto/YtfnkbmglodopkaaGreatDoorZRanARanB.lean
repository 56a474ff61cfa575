/- A loop over an iterator that keeps its state in cells of its own. -/
import Derived.Test.YtfnkbmglodopkaaGreatDoorZBaseSemD
import Derived.RangeFuncWrites
import Derived.RangeFuncCalls
import Derived.RangeFuncNested
namespace Go.Proofs.YtfnkbmglodopkaaGreatDoor
section
open Go.RowKit
theorem zd.putObj {P:Nat→Prop}{a w:World}(h:zd P a w)(l:Nat)(o:Obj)(hp:P l∨a.heap.size≤l):zd P a (w.putObj l o):=
 ⟨h.os,h.tape,h.output,Nat.le_trans h.size (by simp [World.putObj]),fun k hk hn=>(World.putObj_heap_other (by
  rintro rfl
  rcases hp with hp |hp
  ·exact hn hp
  ·omega)).trans (h.block k hk hn)⟩
def strB (A:World)(k:Nat):Prop:=∃ s,A.cell? ⟨k,0,none⟩=some (.string s)
theorem JY {A:World}{k:Nat}{o:Obj}(h:A.heap[k]?=some o)(ho:o.isCells=false):¬strB A k:=by
 rintro ⟨s,hs⟩
 unfold World.cell? at hs
 rw [h] at hs
 cases o with
 |cells c T f=>simp [Obj.isCells] at ho
 |_=>simp at hs
structure j5 (W W':World):Prop where
 size:W.heap.size≤W'.heap.size
 same:∀ (k:Nat),strB W k→W'.heap[k]?=W.heap[k]?
theorem j5.trans {A B C:World}(h:j5 A B)(k:j5 B C):j5 A C:=⟨Nat.le_trans h.size k.size,fun i hi=>(k.same i (by
 obtain ⟨s,hs⟩:=hi
 exact ⟨s,(World.cell?_of_block (w:=A) (h.same i ⟨s,hs⟩)).trans hs⟩)).trans (h.same i hi)⟩
theorem j5.putObj (W:World)(l:Nat)(o o':Obj)(ho:W.heap[l]?=some o)(hc:o.isCells=false):j5 W (W.putObj l o'):=
 ⟨by simp [World.putObj],fun k hk=>World.putObj_heap_other (by
  rintro rfl
  exact JY ho hc hk)⟩
def SeqT {α:Type}(F:Fence)(n:Nat)(P:Program)(gf:Nat)(lb:Array Value)(encs:α→Array Value)(xs:List α)(w0:World):Prop:=
 ∀ (l:Nat) (J:List α→World→Prop) (W:World),zd (fun _=>False) w0 W→
  (∀ pre A A',J pre A→zd (fun k=>W.heap.size≤k∧strB A k) A A'→J pre A')→
  (∀ pre x A,J pre A→(pre++[x]) <+: xs→YieldAt F (n-1) P l (encs x) A fun e A'=>e = .returned (.bool true)∧J (pre++[x]) A'∧j5 A A')→
  J [] W→CallsIn F n P gf (#[.func (.yield l) #[] #[]]++lb) W fun e W'=>(∃ v,e = .returned v)∧J xs W'
def goesPost {α:Type}(B:Nat)(I:List α→World→Prop)(xs:List α)(W:World):Exit→Act→World→Prop
 | .normal,_,W'=>KeepsFrom B W W'∧j5 W W'∧I xs W'
 |_,_,_=>False
variable {F:Fence} {n:Nat} {P:Program}
theorem QZ {α:Type}{g:Operand}{ps:Array Tmp}{assign body:Code}{Q:Exit→Act→World→Prop}{a:Act}{w:World}
  (hro:F.round=none) (h1:1≤n) {gf:Nat} {lb:Array Value} (hg:a.eval g = .func (.func gf) #[] lb) (hFg:F.fn gf) (eg:∀ args w,(callFunc gf args).run P w = .ok (.enter gf args) w)
  {encs:α→Array Value} {xs:List α} (hseq:SeqT F (n-1) P gf lb encs xs w) (hps:∀ x,(encs x).size=ps.size)
  (I:List α→World→Prop)
  (hI:∀ pre A A',I pre A→zd (fun k=>w.heap.size≤k∧(strB A k∨∃ o,A.heap[k]?=some o∧o.isCells=false)) A A'→I pre A')
  (h0:I [] w) (a₁:α→Act)
  (hassign:∀ (l:Nat) (x:α) (W:World) (K:Act→World→Prop),K (a₁ x) W→
   assign.wpIn (F.inRound l) (n-1-1) P (Exit.then K (fun _ _ _=>False)) { tmps:=(ps.zip (encs x)).foldl (fun t (p,v)=>t.setIfInBounds p v) a.tmps,defers:=[] } W)
  (hbody:∀ (l:Nat) (pre:List α) (x:α) (W:World),I pre W→(pre++[x]) <+: xs→body.wpIn (F.inRound l) (n-1-1) P (goesPost w.heap.size I (pre++[x]) W) (a₁ x) W)
  (hdone:∀ (D:Nat) (W:World),w.heap.size≤D→I xs W→W.heap[D]?=some (.deferred (some []))→Q .normal { a with defers:={ target:=.collected D,args:=#[] } :: a.defers } W) :
  (Code.rangeFunc g ps assign body).wpIn F n P Q a w:=by
 refine wpIn_rangeFunc ?_
 intro fn hfn
 rw [hro]
 obtain ⟨rec,hrec⟩:∃ rec:LoopState→Loop,rec=fun st=>{ state:=st,pending:=none,fn,tmps:=a.tmps,params:=ps,assign,body,defers:=w.heap.size }:=⟨_,rfl⟩
 obtain ⟨V,hV⟩:∃ V,(w.alloc (.deferred (some []))).alloc (.loop (rec .ready))=V:=⟨_,rfl⟩
 have hO:zd (fun _=>False) w V:=by rw [←hV];exact ((zd.refl _ w).alloc _).alloc _
 have hsz:V.heap.size=w.heap.size+1+1:=by rw [←hV];simp
 have hL1:V.heap[w.heap.size+1]?=some (.loop (rec .ready)):=by
  rw [←hV];have:=World.alloc_heap_new (w.alloc (.deferred (some []))) (.loop (rec .ready));rwa [World.size_alloc] at this
 have hD1:V.heap[w.heap.size]?=some (.deferred (some [])):=by
  rw [←hV];exact (Below.heap_alloc _ _ _ (by simp)).trans (World.alloc_heap_new w _)
 refine ⟨w.heap.size+1,[{ target:=.collected w.heap.size,args:=#[] }],V,{ target:=.fn (.func gf) lb,args:=#[.func (.yield (w.heap.size+1)) #[] #[]] },V,gf,
  #[.func (.yield (w.heap.size+1)) #[] #[]]++lb,V,?_,?_,?_,?_,fun _=>h1,?_⟩
 ·rw [←hV,hrec];exact run_enterLoop_outer _ _ _ _ _
 ·simp only [resolve,hg]
  simp [go_sem]
 ·intro f' hf';simp [Target.leads] at hf';subst hf';exact hFg
 ·simp [invoke,go_sem,eg]
 ·have put:∀ pre A o o',I pre A→A.heap[w.heap.size+1]?=some o→o.isCells=false→I pre (A.putObj (w.heap.size+1) o'):=fun pre A o o' hi ho hc=>
   hI pre A _ hi ((zd.refl _ A).putObj _ _ (.inl ⟨by omega,.inr ⟨o,ho,hc⟩⟩))
  refine (hseq (w.heap.size+1) (fun pre W=>I pre W∧W.heap[w.heap.size+1]?=some (.loop (rec .ready))∧W.heap[w.heap.size]?=some (.deferred (some []))) V hO ?_ ?_ ⟨hI _ _ _ h0 (hO.mono (fun _ _ f=>f.elim)),hL1,hD1⟩).mono ?_
  ·rintro pre A A' ⟨hi,hl,hd⟩ hA
   have lt:∀ k o,A.heap[k]?=some o→k<V.heap.size→A'.heap[k]?=some o:=fun k o hk hlt=>(hA.block k (Array.getElem?_eq_some_iff.1 hk).1 (fun hp=>by omega)).trans hk
   exact ⟨hI pre A A' hi (hA.mono (fun k hk hp=>⟨by omega,.inl hp.2⟩)),lt _ _ hl (by omega),lt _ _ hd (by omega)⟩
  ·rintro pre x W ⟨hi,hl,hd⟩ hpre
   have hlt:w.heap.size+1<W.heap.size:=(Array.getElem?_eq_some_iff.1 hl).1
   have hy:=run_yield (P:=P) (args:=encs x) hl (by rw [hrec];exact hps x)
   rw [hrec] at hy
   refine ⟨fn,_,assign,body,hy,roundIn_of_wpIn hfn (hassign _ x W _ ⟨_,run_beginRound hl (by rw [hrec]),?_⟩)⟩
   have hl2:(W.putObj (w.heap.size+1) (.loop { rec .ready with state:=.busy })).heap[w.heap.size+1]?=some (.loop { rec .ready with state:=.busy }):=World.putObj_heap_same hlt
   have hd2:(W.putObj (w.heap.size+1) (.loop { rec .ready with state:=.busy })).heap[w.heap.size]?=some (.deferred (some [])):=(World.putObj_heap_other (by omega)).trans hd
   have hk2:j5 W (W.putObj (w.heap.size+1) (.loop { rec .ready with state:=.busy })):=j5.putObj _ _ _ _ hl rfl
   refine wpIn_mono (hbody _ pre x _ (put _ _ _ _ hi hl rfl) hpre) ?_
   rintro e a3 W3 hp
   cases e with
   |normal=>
    obtain ⟨hk3,hkt3,hi3⟩:=hp
    have hl3:=hk3.same _ _ (by omega) hl2 rfl
    have hd3:=hk3.same _ _ (Nat.le_refl _) hd2 rfl
    have hr:=run_endRound (P:=P) none hl3
    refine ⟨_,_,hr,rfl,⟨put _ _ _ _ hi3 hl3 rfl,?_,(World.putObj_heap_other (by omega)).trans hd3⟩,(hk2.trans hkt3).trans (j5.putObj _ _ _ _ hl3 rfl)⟩
    rw [World.putObj_heap_same (Array.getElem?_eq_some_iff.1 hl3).1,hrec]
    rfl
   |ret=>exact hp.elim
   |exit id=>exact hp.elim
   |goto t=>exact hp.elim
   |panic ch=>exact hp.elim
   |outgrown=>exact hp.elim
  ·rintro e W2 ⟨⟨v,rfl⟩,hi,hl,hd⟩
   have he:=run_endLoop (P:=P) hl (by rw [hrec];simp)
   refine ⟨none,_,he.trans (by rw [hrec]),?_⟩
   exact hdone _ _ (Nat.le_refl _) (put _ _ _ _ hi hl rfl) ((World.putObj_heap_other (by omega)).trans hd)
end
section
open Go.RowKit
def SeqO {α:Type}(F:Fence)(n:Nat)(P:Program)(gf:Nat)(lb:Array Value)(encs:α→Array Value)(xs:List α)(D:Nat→Prop)(w0:World):Prop:=
 ∀ (l:Nat) (J:List α→(Nat→Prop)→World→Prop) (O0:Nat→Prop) (W:World),zd (fun _=>False) w0 W→(∀ k,D k→¬O0 k)→(∀ k,O0 k→k<W.heap.size)→
  (∀ pre O A A',J pre O A→zd (fun k=>W.heap.size≤k∧¬O k) A A'→J pre O A')→
  (∀ pre O x A,J pre O A→(pre++[x]) <+: xs→YieldAt F (n-1) P l (encs x) A fun e A'=>e = .returned (.bool true)∧∃ O',J (pre++[x]) O' A'∧(∀ k,O' k→O k∨A.heap.size≤k)∧zd O A A'∧∀ k,O' k→k<A'.heap.size)→
  J [] O0 W→CallsIn F n P gf (#[.func (.yield l) #[] #[]]++lb) W fun e W'=>(∃ v,e = .returned v)∧∃ O',J xs O' W'
def goesO {α:Type}(I:List α→(Nat→Prop)→World→Prop)(xs:List α)(O:Nat→Prop)(W:World):Exit→Act→World→Prop
 | .normal,_,W'=>∃ O',I xs O' W'∧(∀ k,O' k→O k∨W.heap.size≤k)∧zd O W W'∧∀ k,O' k→k<W'.heap.size
 |_,_,_=>False
variable {F:Fence} {n:Nat} {P:Program}
theorem yr (W:World)(l:Nat)(o:Obj):(W.putObj l o).heap.size=W.heap.size:=by simp [World.putObj]
theorem kT {α:Type}{g:Operand}{ps:Array Tmp}{assign body:Code}{Q:Exit→Act→World→Prop}{a:Act}{w:World}
  (hro:F.round=none) (h1:1≤n) {gf:Nat} {lb:Array Value} (hg:a.eval g = .func (.func gf) #[] lb) (hFg:F.fn gf) (eg:∀ args w,(callFunc gf args).run P w = .ok (.enter gf args) w)
  {encs:α→Array Value} {xs:List α} {D:Nat→Prop} (hseq:SeqO F (n-1) P gf lb encs xs D w) (hps:∀ x,(encs x).size=ps.size)
  (I:List α→(Nat→Prop)→World→Prop) (O0:Nat→Prop) (hO0:∀ k,O0 k→k<w.heap.size) (hD:∀ k,D k→k<w.heap.size∧¬O0 k)
  (hI:∀ pre O A A',I pre O A→zd (fun k=>w.heap.size≤k∧¬O k) A A'→I pre O A')
  (h0:I [] O0 w) (a₁:α→Act)
  (hassign:∀ (l:Nat) (x:α) (W:World) (K:Act→World→Prop),K (a₁ x) W→
   assign.wpIn (F.inRound l) (n-1-1) P (Exit.then K (fun _ _ _=>False)) { tmps:=(ps.zip (encs x)).foldl (fun t (p,v)=>t.setIfInBounds p v) a.tmps,defers:=[] } W)
  (hbody:∀ (l:Nat) (pre:List α) (O:Nat→Prop) (x:α) (W:World),w.heap.size≤l→¬O l→(∃ r,W.heap[l]?=some (.loop r))→I pre O W→(pre++[x]) <+: xs→body.wpIn (F.inRound l) (n-1-1) P (goesO I (pre++[x]) O W) (a₁ x) W)
  (hdone:∀ (D:Nat) (O:Nat→Prop) (W:World),w.heap.size≤D→¬O D→I xs O W→W.heap[D]?=some (.deferred (some []))→Q .normal { a with defers:={ target:=.collected D,args:=#[] } :: a.defers } W) :
  (Code.rangeFunc g ps assign body).wpIn F n P Q a w:=by
 refine wpIn_rangeFunc ?_
 intro fn hfn
 rw [hro]
 obtain ⟨rec,hrec⟩:∃ rec:LoopState→Loop,rec=fun st=>{ state:=st,pending:=none,fn,tmps:=a.tmps,params:=ps,assign,body,defers:=w.heap.size }:=⟨_,rfl⟩
 obtain ⟨V,hV⟩:∃ V,(w.alloc (.deferred (some []))).alloc (.loop (rec .ready))=V:=⟨_,rfl⟩
 have hO:zd (fun _=>False) w V:=by rw [←hV];exact ((zd.refl _ w).alloc _).alloc _
 have hsz:V.heap.size=w.heap.size+1+1:=by rw [←hV];simp
 have hL1:V.heap[w.heap.size+1]?=some (.loop (rec .ready)):=by
  rw [←hV];have:=World.alloc_heap_new (w.alloc (.deferred (some []))) (.loop (rec .ready));rwa [World.size_alloc] at this
 have hD1:V.heap[w.heap.size]?=some (.deferred (some [])):=by
  rw [←hV];exact (Below.heap_alloc _ _ _ (by simp)).trans (World.alloc_heap_new w _)
 refine ⟨w.heap.size+1,[{ target:=.collected w.heap.size,args:=#[] }],V,{ target:=.fn (.func gf) lb,args:=#[.func (.yield (w.heap.size+1)) #[] #[]] },V,gf,
  #[.func (.yield (w.heap.size+1)) #[] #[]]++lb,V,?_,?_,?_,?_,fun _=>h1,?_⟩
 ·rw [←hV,hrec];exact run_enterLoop_outer _ _ _ _ _
 ·simp only [resolve,hg]
  simp [go_sem]
 ·intro f' hf';simp [Target.leads] at hf';subst hf';exact hFg
 ·simp [invoke,go_sem,eg]
 ·have put:∀ pre Ob A o',I pre Ob A→¬Ob (w.heap.size+1)→I pre Ob (A.putObj (w.heap.size+1) o'):=fun pre Ob A o' hi hn=>
   hI pre Ob A _ hi ((zd.refl _ A).putObj _ _ (.inl ⟨by omega,hn⟩))
  refine (hseq (w.heap.size+1) (fun pre O W=>∃ Ob:Nat→Prop,(∀ k,O k↔Ob k∨k=w.heap.size+1)∧¬Ob (w.heap.size+1)∧¬Ob w.heap.size∧I pre Ob W∧W.heap[w.heap.size+1]?=some (.loop (rec .ready))∧W.heap[w.heap.size]?=some (.deferred (some []))) (fun k=>O0 k∨k=w.heap.size+1) V hO ?_ ?_ ?_ ?_
   ⟨O0,fun _=>Iff.rfl,fun h=>by have:=hO0 _ h;omega,fun h=>by have:=hO0 _ h;omega,hI _ _ _ _ h0 (hO.mono (fun _ _ f=>f.elim)),hL1,hD1⟩).mono ?_
  ·intro k hk hor
   obtain ⟨h1,h2⟩:=hD k hk
   rcases hor with h |h
   ·exact h2 h
   ·omega
  ·rintro k (h |h)
   ·have:=hO0 k h;omega
   ·omega
  ·rintro pre O A A' ⟨Ob,hOb,hnL,hnD,hi,hl,hd⟩ hA
   have lt:∀ k o,A.heap[k]?=some o→k<V.heap.size→A'.heap[k]?=some o:=fun k o hk hlt=>(hA.block k (Array.getElem?_eq_some_iff.1 hk).1 (fun hp=>by omega)).trans hk
   exact ⟨Ob,hOb,hnL,hnD,hI pre Ob A A' hi (hA.mono (fun k hk hp=>⟨by omega,fun h=>hp.2 ((hOb k).2 (.inl h))⟩)),lt _ _ hl (by omega),lt _ _ hd (by omega)⟩
  ·rintro pre O x W ⟨Ob,hOb,hnL,hnD,hi,hl,hd⟩ hpre
   have hlt:w.heap.size+1<W.heap.size:=(Array.getElem?_eq_some_iff.1 hl).1
   have hy:=run_yield (P:=P) (args:=encs x) hl (by rw [hrec];exact hps x)
   rw [hrec] at hy
   refine ⟨fn,_,assign,body,hy,roundIn_of_wpIn hfn (hassign _ x W _ ⟨_,run_beginRound hl (by rw [hrec]),?_⟩)⟩
   have hl2:(W.putObj (w.heap.size+1) (.loop { rec .ready with state:=.busy })).heap[w.heap.size+1]?=some (.loop { rec .ready with state:=.busy }):=World.putObj_heap_same hlt
   have hd2:(W.putObj (w.heap.size+1) (.loop { rec .ready with state:=.busy })).heap[w.heap.size]?=some (.deferred (some [])):=(World.putObj_heap_other (by omega)).trans hd
   have hs2:(W.putObj (w.heap.size+1) (.loop { rec .ready with state:=.busy })).heap.size=W.heap.size:=by simp [World.putObj]
   have hk2:zd O W (W.putObj (w.heap.size+1) (.loop { rec .ready with state:=.busy })):=(zd.refl _ W).putObj _ _ (.inl ((hOb _).2 (.inr rfl)))
   refine wpIn_mono (hbody _ pre Ob x _ (by omega) hnL ⟨_,hl2⟩ (put _ _ _ _ hi hnL) hpre) ?_
   rintro e a3 W3 hp
   cases e with
   |normal=>
    obtain ⟨O2,hi3,hsub,hO3,hlt3⟩:=hp
    have keep:∀ k o,(W.putObj (w.heap.size+1) (.loop { rec .ready with state:=.busy })).heap[k]?=some o→¬Ob k→W3.heap[k]?=some o:=fun k o hk hn=>(hO3.block k (Array.getElem?_eq_some_iff.1 hk).1 hn).trans hk
    have hl3:=keep _ _ hl2 hnL
    have hd3:=keep _ _ hd2 hnD
    have hr:=run_endRound (P:=P) none hl3
    have hn2:¬O2 (w.heap.size+1):=fun h=>by
     rcases hsub _ h with h |h
     ·exact hnL h
     ·rw [yr] at h;omega
    have hn3:¬O2 w.heap.size:=fun h=>by
     rcases hsub _ h with h |h
     ·exact hnD h
     ·rw [yr] at h;omega
    refine ⟨_,_,hr,rfl,fun k=>O2 k∨k=w.heap.size+1,⟨O2,fun _=>Iff.rfl,hn2,hn3,put _ _ _ _ hi3 hn2,?_,(World.putObj_heap_other (by omega)).trans hd3⟩,?_,(hk2.trans (hO3.mono (fun k _ h=>(hOb k).2 (.inl h)))).putObj _ _ (.inl ((hOb _).2 (.inr rfl))),fun k hk=>by
     rw [yr]
     rcases hk with h |h
     ·exact hlt3 k h
     ·rw [h];exact (Array.getElem?_eq_some_iff.1 hl3).1⟩
    ·rw [World.putObj_heap_same (Array.getElem?_eq_some_iff.1 hl3).1,hrec]
     rfl
    ·rintro k (h |h)
     ·rcases hsub k h with h |h
      ·exact .inl ((hOb k).2 (.inl h))
      ·rw [yr] at h;exact .inr h
     ·exact .inl ((hOb k).2 (.inr h))
   |ret=>exact hp.elim
   |exit id=>exact hp.elim
   |goto t=>exact hp.elim
   |panic ch=>exact hp.elim
   |outgrown=>exact hp.elim
  ·rintro e W2 ⟨⟨v,rfl⟩,O',Ob,hOb,hnL,hnD,hi,hl,hd⟩
   have he:=run_endLoop (P:=P) hl (by rw [hrec];simp)
   refine ⟨none,_,he.trans (by rw [hrec]),?_⟩
   exact hdone _ Ob _ (Nat.le_refl _) hnD (put _ _ _ _ hi hnL) ((World.putObj_heap_other (by omega)).trans hd)
theorem Q0 {α:Type}{g:Operand}{ps:Array Tmp}{assign body:Code}{Q:Exit→Act→World→Prop}{a:Act}{w:World}
  (hro:F.round=none) (h1:1≤n) {gf:Nat} {lb:Array Value} (hg:a.eval g = .func (.func gf) #[] lb) (hFg:F.fn gf) (eg:∀ args w,(callFunc gf args).run P w = .ok (.enter gf args) w)
  {encs:α→Array Value} {xs:List α} {D:Nat→Prop} (hseq:SeqO F (n-1) P gf lb encs xs D w) (hps:∀ x,(encs x).size=ps.size)
  (I:List α→(Nat→Prop)→World→Prop) (O0:Nat→Prop) (hO0:∀ k,O0 k→k<w.heap.size) (hD:∀ k,D k→k<w.heap.size∧¬O0 k)
  (hI:∀ pre O A A',I pre O A→zd (fun k=>w.heap.size≤k∧¬O k) A A'→I pre O A')
  (h0:I [] O0 w) (Ax:α→Act→World→Prop) (hAx:∀ x a V l o o',Ax x a V→V.heap[l]?=some o→o.isCells=false→Ax x a (V.putObj l o'))
  (hassign:∀ (l:Nat) (x:α) (W:World) (K:Act→World→Prop),(∀ a' V,zd (fun _=>False) W V→Ax x a' V→K a' V)→
   assign.wpIn (F.inRound l) (n-1-1) P (Exit.then K (fun _ _ _=>False)) { tmps:=(ps.zip (encs x)).foldl (fun t (p,v)=>t.setIfInBounds p v) a.tmps,defers:=[] } W)
  (hbody:∀ (l:Nat) (pre:List α) (O:Nat→Prop) (x:α) (a':Act) (W:World),w.heap.size≤l→¬O l→(∃ r,W.heap[l]?=some (.loop r))→I pre O W→(pre++[x]) <+: xs→Ax x a' W→body.wpIn (F.inRound l) (n-1-1) P (goesO I (pre++[x]) O W) a' W)
  (hdone:∀ (D:Nat) (O:Nat→Prop) (W:World),w.heap.size≤D→¬O D→I xs O W→W.heap[D]?=some (.deferred (some []))→Q .normal { a with defers:={ target:=.collected D,args:=#[] } :: a.defers } W) :
  (Code.rangeFunc g ps assign body).wpIn F n P Q a w:=by
 refine wpIn_rangeFunc ?_
 intro fn hfn
 rw [hro]
 obtain ⟨rec,hrec⟩:∃ rec:LoopState→Loop,rec=fun st=>{ state:=st,pending:=none,fn,tmps:=a.tmps,params:=ps,assign,body,defers:=w.heap.size }:=⟨_,rfl⟩
 obtain ⟨V,hV⟩:∃ V,(w.alloc (.deferred (some []))).alloc (.loop (rec .ready))=V:=⟨_,rfl⟩
 have hO:zd (fun _=>False) w V:=by rw [←hV];exact ((zd.refl _ w).alloc _).alloc _
 have hsz:V.heap.size=w.heap.size+1+1:=by rw [←hV];simp
 have hL1:V.heap[w.heap.size+1]?=some (.loop (rec .ready)):=by
  rw [←hV];have:=World.alloc_heap_new (w.alloc (.deferred (some []))) (.loop (rec .ready));rwa [World.size_alloc] at this
 have hD1:V.heap[w.heap.size]?=some (.deferred (some [])):=by
  rw [←hV];exact (Below.heap_alloc _ _ _ (by simp)).trans (World.alloc_heap_new w _)
 refine ⟨w.heap.size+1,[{ target:=.collected w.heap.size,args:=#[] }],V,{ target:=.fn (.func gf) lb,args:=#[.func (.yield (w.heap.size+1)) #[] #[]] },V,gf,
  #[.func (.yield (w.heap.size+1)) #[] #[]]++lb,V,?_,?_,?_,?_,fun _=>h1,?_⟩
 ·rw [←hV,hrec];exact run_enterLoop_outer _ _ _ _ _
 ·simp only [resolve,hg]
  simp [go_sem]
 ·intro f' hf';simp [Target.leads] at hf';subst hf';exact hFg
 ·simp [invoke,go_sem,eg]
 ·have put:∀ pre Ob A o',I pre Ob A→¬Ob (w.heap.size+1)→I pre Ob (A.putObj (w.heap.size+1) o'):=fun pre Ob A o' hi hn=>
   hI pre Ob A _ hi ((zd.refl _ A).putObj _ _ (.inl ⟨by omega,hn⟩))
  refine (hseq (w.heap.size+1) (fun pre O W=>∃ Ob:Nat→Prop,(∀ k,O k↔Ob k∨k=w.heap.size+1)∧¬Ob (w.heap.size+1)∧¬Ob w.heap.size∧I pre Ob W∧W.heap[w.heap.size+1]?=some (.loop (rec .ready))∧W.heap[w.heap.size]?=some (.deferred (some []))) (fun k=>O0 k∨k=w.heap.size+1) V hO ?_ ?_ ?_ ?_
   ⟨O0,fun _=>Iff.rfl,fun h=>by have:=hO0 _ h;omega,fun h=>by have:=hO0 _ h;omega,hI _ _ _ _ h0 (hO.mono (fun _ _ f=>f.elim)),hL1,hD1⟩).mono ?_
  ·intro k hk hor
   obtain ⟨h1,h2⟩:=hD k hk
   rcases hor with h |h
   ·exact h2 h
   ·omega
  ·rintro k (h |h)
   ·have:=hO0 k h;omega
   ·omega
  ·rintro pre O A A' ⟨Ob,hOb,hnL,hnD,hi,hl,hd⟩ hA
   have lt:∀ k o,A.heap[k]?=some o→k<V.heap.size→A'.heap[k]?=some o:=fun k o hk hlt=>(hA.block k (Array.getElem?_eq_some_iff.1 hk).1 (fun hp=>by omega)).trans hk
   exact ⟨Ob,hOb,hnL,hnD,hI pre Ob A A' hi (hA.mono (fun k hk hp=>⟨by omega,fun h=>hp.2 ((hOb k).2 (.inl h))⟩)),lt _ _ hl (by omega),lt _ _ hd (by omega)⟩
  ·rintro pre O x W0 ⟨Ob,hOb,hnL,hnD,hi0,hl0,hd0⟩ hpre
   have hlt0:w.heap.size+1<W0.heap.size:=(Array.getElem?_eq_some_iff.1 hl0).1
   have hy:=run_yield (P:=P) (args:=encs x) hl0 (by rw [hrec];exact hps x)
   rw [hrec] at hy
   refine ⟨fn,_,assign,body,hy,roundIn_of_wpIn hfn (hassign _ x W0 _ (fun a' W hoW hax=>?_))⟩
   have hl:=(hoW.block _ hlt0 (fun f=>f)).trans hl0
   have hd:=(hoW.block _ (Array.getElem?_eq_some_iff.1 hd0).1 (fun f=>f)).trans hd0
   have hi:=hI _ _ _ _ hi0 (hoW.mono (fun _ _ f=>f.elim))
   have hlt:w.heap.size+1<W.heap.size:=(Array.getElem?_eq_some_iff.1 hl).1
   refine ⟨_,run_beginRound hl (by rw [hrec]),?_⟩
   have hl2:(W.putObj (w.heap.size+1) (.loop { rec .ready with state:=.busy })).heap[w.heap.size+1]?=some (.loop { rec .ready with state:=.busy }):=World.putObj_heap_same hlt
   have hd2:(W.putObj (w.heap.size+1) (.loop { rec .ready with state:=.busy })).heap[w.heap.size]?=some (.deferred (some [])):=(World.putObj_heap_other (by omega)).trans hd
   have hk2:zd O W0 (W.putObj (w.heap.size+1) (.loop { rec .ready with state:=.busy })):=(hoW.mono (fun _ _ f=>f.elim)).putObj _ _ (.inl ((hOb _).2 (.inr rfl)))
   refine wpIn_mono (hbody _ pre Ob x a' _ (by omega) hnL ⟨_,hl2⟩ (put _ _ _ _ hi hnL) hpre (hAx _ _ _ _ _ _ hax hl rfl)) ?_
   rintro e a3 W3 hp
   cases e with
   |normal=>
    obtain ⟨O2,hi3,hsub,hO3,hlt3⟩:=hp
    have keep:∀ k o,(W.putObj (w.heap.size+1) (.loop { rec .ready with state:=.busy })).heap[k]?=some o→¬Ob k→W3.heap[k]?=some o:=fun k o hk hn=>(hO3.block k (Array.getElem?_eq_some_iff.1 hk).1 hn).trans hk
    have hl3:=keep _ _ hl2 hnL
    have hd3:=keep _ _ hd2 hnD
    have hr:=run_endRound (P:=P) none hl3
    have hn2:¬O2 (w.heap.size+1):=fun h=>by
     rcases hsub _ h with h |h
     ·exact hnL h
     ·rw [yr] at h;omega
    have hn3:¬O2 w.heap.size:=fun h=>by
     rcases hsub _ h with h |h
     ·exact hnD h
     ·rw [yr] at h;omega
    refine ⟨_,_,hr,rfl,fun k=>O2 k∨k=w.heap.size+1,⟨O2,fun _=>Iff.rfl,hn2,hn3,put _ _ _ _ hi3 hn2,?_,(World.putObj_heap_other (by omega)).trans hd3⟩,?_,(hk2.trans (hO3.mono (fun k _ h=>(hOb k).2 (.inl h)))).putObj _ _ (.inl ((hOb _).2 (.inr rfl))),fun k hk=>by
     rw [yr]
     rcases hk with h |h
     ·exact hlt3 k h
     ·rw [h];exact (Array.getElem?_eq_some_iff.1 hl3).1⟩
    ·rw [World.putObj_heap_same (Array.getElem?_eq_some_iff.1 hl3).1,hrec]
     rfl
    ·rintro k (h |h)
     ·rcases hsub k h with h |h
      ·exact .inl ((hOb k).2 (.inl h))
      ·rw [yr] at h;exact .inr (Nat.le_trans hoW.size h)
     ·exact .inl ((hOb k).2 (.inr h))
   |ret=>exact hp.elim
   |exit id=>exact hp.elim
   |goto t=>exact hp.elim
   |panic ch=>exact hp.elim
   |outgrown=>exact hp.elim
  ·rintro e W2 ⟨⟨v,rfl⟩,O',Ob,hOb,hnL,hnD,hi,hl,hd⟩
   have he:=run_endLoop (P:=P) hl (by rw [hrec];simp)
   refine ⟨none,_,he.trans (by rw [hrec]),?_⟩
   exact hdone _ Ob _ (Nat.le_refl _) hnD (put _ _ _ _ hi hnL) ((World.putObj_heap_other (by omega)).trans hd)
theorem Q1 {α:Type}{g:Operand}{ps:Array Tmp}{assign body:Code}{Q:Exit→Act→World→Prop}{a:Act}{w:World}
  {l₀:Nat} {r₀:Loop} (hro:F.round=some l₀) (hl₀:w.heap[l₀]?=some (.loop r₀)) (h1:1≤n) {gf:Nat} {lb:Array Value} (hg:a.eval g = .func (.func gf) #[] lb) (hFg:F.fn gf) (eg:∀ args w,(callFunc gf args).run P w = .ok (.enter gf args) w)
  {encs:α→Array Value} {xs:List α} {D:Nat→Prop} (hseq:SeqO F (n-1) P gf lb encs xs D w) (hps:∀ x,(encs x).size=ps.size)
  (I:List α→(Nat→Prop)→World→Prop) (O0:Nat→Prop) (hO0:∀ k,O0 k→k<w.heap.size) (hD:∀ k,D k→k<w.heap.size∧¬O0 k)
  (hI:∀ pre O A A',I pre O A→zd (fun k=>w.heap.size≤k∧¬O k) A A'→I pre O A')
  (h0:I [] O0 w) (a₁:α→Act)
  (hassign:∀ (l:Nat) (x:α) (W:World) (K:Act→World→Prop),K (a₁ x) W→
   assign.wpIn (F.inRound l) (n-1-1) P (Exit.then K (fun _ _ _=>False)) { tmps:=(ps.zip (encs x)).foldl (fun t (p,v)=>t.setIfInBounds p v) a.tmps,defers:=[] } W)
  (hbody:∀ (l:Nat) (pre:List α) (O:Nat→Prop) (x:α) (W:World),w.heap.size≤l→¬O l→(∃ r,W.heap[l]?=some (.loop r))→I pre O W→(pre++[x]) <+: xs→body.wpIn (F.inRound l) (n-1-1) P (goesO I (pre++[x]) O W) (a₁ x) W)
  (hdone:∀ (O:Nat→Prop) (W:World),I xs O W→Q .normal a W) :
  (Code.rangeFunc g ps assign body).wpIn F n P Q a w:=by
 refine wpIn_rangeFunc ?_
 intro fn hfn
 rw [hro]
 obtain ⟨rec,hrec⟩:∃ rec:LoopState→Loop,rec=fun st=>{ state:=st,pending:=none,fn,tmps:=a.tmps,params:=ps,assign,body,defers:=r₀.defers }:=⟨_,rfl⟩
 obtain ⟨V,hV⟩:∃ V,w.alloc (.loop (rec .ready))=V:=⟨_,rfl⟩
 have hO:zd (fun _=>False) w V:=by rw [←hV];exact (zd.refl _ w).alloc _
 have hsz:V.heap.size=w.heap.size+1:=by rw [←hV];simp
 have hL1:V.heap[w.heap.size]?=some (.loop (rec .ready)):=by rw [←hV];exact World.alloc_heap_new w _
 refine ⟨w.heap.size,[],V,{ target:=.fn (.func gf) lb,args:=#[.func (.yield w.heap.size) #[] #[]] },V,gf,
  #[.func (.yield w.heap.size) #[] #[]]++lb,V,?_,?_,?_,?_,fun _=>h1,?_⟩
 ·rw [←hV,hrec];exact run_enterLoop_inner hl₀ _ _ _ _ _
 ·simp only [resolve,hg]
  simp [go_sem]
 ·intro f' hf';simp [Target.leads] at hf';subst hf';exact hFg
 ·simp [invoke,go_sem,eg]
 ·have put:∀ pre Ob A o',I pre Ob A→¬Ob w.heap.size→I pre Ob (A.putObj w.heap.size o'):=fun pre Ob A o' hi hn=>
   hI pre Ob A _ hi ((zd.refl _ A).putObj _ _ (.inl ⟨by omega,hn⟩))
  refine (hseq w.heap.size (fun pre O W=>∃ Ob:Nat→Prop,(∀ k,O k↔Ob k∨k=w.heap.size)∧¬Ob w.heap.size∧I pre Ob W∧W.heap[w.heap.size]?=some (.loop (rec .ready))) (fun k=>O0 k∨k=w.heap.size) V hO ?_ ?_ ?_ ?_
   ⟨O0,fun _=>Iff.rfl,fun h=>by have:=hO0 _ h;omega,hI _ _ _ _ h0 (hO.mono (fun _ _ f=>f.elim)),hL1⟩).mono ?_
  ·intro k hk hor
   obtain ⟨h1,h2⟩:=hD k hk
   rcases hor with h |h
   ·exact h2 h
   ·omega
  ·rintro k (h |h)
   ·have:=hO0 k h;omega
   ·omega
  ·rintro pre O A A' ⟨Ob,hOb,hnL,hi,hl⟩ hA
   have lt:∀ k o,A.heap[k]?=some o→k<V.heap.size→A'.heap[k]?=some o:=fun k o hk hlt=>(hA.block k (Array.getElem?_eq_some_iff.1 hk).1 (fun hp=>by omega)).trans hk
   exact ⟨Ob,hOb,hnL,hI pre Ob A A' hi (hA.mono (fun k hk hp=>⟨by omega,fun h=>hp.2 ((hOb k).2 (.inl h))⟩)),lt _ _ hl (by omega)⟩
  ·rintro pre O x W ⟨Ob,hOb,hnL,hi,hl⟩ hpre
   have hlt:w.heap.size<W.heap.size:=(Array.getElem?_eq_some_iff.1 hl).1
   have hy:=run_yield (P:=P) (args:=encs x) hl (by rw [hrec];exact hps x)
   rw [hrec] at hy
   refine ⟨fn,_,assign,body,hy,roundIn_of_wpIn hfn (hassign _ x W _ ⟨_,run_beginRound hl (by rw [hrec]),?_⟩)⟩
   have hl2:(W.putObj w.heap.size (.loop { rec .ready with state:=.busy })).heap[w.heap.size]?=some (.loop { rec .ready with state:=.busy }):=World.putObj_heap_same hlt
   have hs2:(W.putObj w.heap.size (.loop { rec .ready with state:=.busy })).heap.size=W.heap.size:=by simp [World.putObj]
   have hk2:zd O W (W.putObj w.heap.size (.loop { rec .ready with state:=.busy })):=(zd.refl _ W).putObj _ _ (.inl ((hOb _).2 (.inr rfl)))
   refine wpIn_mono (hbody _ pre Ob x _ (by omega) hnL ⟨_,hl2⟩ (put _ _ _ _ hi hnL) hpre) ?_
   rintro e a3 W3 hp
   cases e with
   |normal=>
    obtain ⟨O2,hi3,hsub,hO3,hlt3⟩:=hp
    have hl3:W3.heap[w.heap.size]?=some (.loop { rec .ready with state:=.busy }):=(hO3.block _ (Array.getElem?_eq_some_iff.1 hl2).1 hnL).trans hl2
    have hr:=run_endRound (P:=P) none hl3
    have hn2:¬O2 w.heap.size:=fun h=>by
     rcases hsub _ h with h |h
     ·exact hnL h
     ·rw [yr] at h;omega
    refine ⟨_,_,hr,rfl,fun k=>O2 k∨k=w.heap.size,⟨O2,fun _=>Iff.rfl,hn2,put _ _ _ _ hi3 hn2,?_⟩,?_,(hk2.trans (hO3.mono (fun k _ h=>(hOb k).2 (.inl h)))).putObj _ _ (.inl ((hOb _).2 (.inr rfl))),fun k hk=>by
     rw [yr]
     rcases hk with h |h
     ·exact hlt3 k h
     ·rw [h];exact (Array.getElem?_eq_some_iff.1 hl3).1⟩
    ·rw [World.putObj_heap_same (Array.getElem?_eq_some_iff.1 hl3).1,hrec]
     rfl
    ·rintro k (h |h)
     ·rcases hsub k h with h |h
      ·exact .inl ((hOb k).2 (.inl h))
      ·rw [yr] at h;exact .inr h
     ·exact .inl ((hOb k).2 (.inr h))
   |ret=>exact hp.elim
   |exit id=>exact hp.elim
   |goto t=>exact hp.elim
   |panic ch=>exact hp.elim
   |outgrown=>exact hp.elim
  ·rintro e W2 ⟨⟨v,rfl⟩,O',Ob,hOb,hnL,hi,hl⟩
   have he:=run_endLoop (P:=P) hl (by rw [hrec];simp)
   exact ⟨none,_,he.trans (by rw [hrec]),hdone Ob _ (put _ _ _ _ hi hnL)⟩
end
end Go.Proofs.YtfnkbmglodopkaaGreatDoor
