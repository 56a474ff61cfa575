/- The program's letters of a text. The letters beside the lexer's characters: where a text stops being one. -/
import Derived.Test.YtdhmllobgijggaaGreatDoorKChCD
import Derived.Test.YtdhmllobgijggaaGreatDoorKProAE
import Derived.RangeFuncBox
import Derived.RangeFuncNested
namespace Go.Proofs.YtdhmllobgijggaaGreatDoor
open Go.RowKit Go.Shelf
attribute [local go_sem] Oper.semAt_some

namespace Pro
def letCells : List (Int × Int) → List Value
  | [] => []
  | (a, b) :: r => .int .i64 a :: .int .i32 b :: letCells r
theorem letCells_append (l m : List (Int × Int)) : letCells (l ++ m) = letCells l ++ letCells m := by
  induction l with
  | nil => rfl
  | cons x l ih => obtain ⟨a, b⟩ := x; simp [letCells, ih]
/-- Where the last of some letters ends. -/
def endOf (l : List (Int × Int)) : Int := l.foldl (fun _ x => x.1 + runeN x.2) 0
theorem endOf_snoc (l : List (Int × Int)) (x : Int × Int) : endOf (l ++ [x]) = x.1 + runeN x.2 := by unfold endOf; simp
theorem letM_in (s : ByteArray) : ∀ (f p : Nat) (x : Int × Int), x ∈ letM s f p → 0 ≤ x.1 ∧ x.1 ≤ s.size ∧ 0 ≤ x.2 ∧ x.2 ≤ 1114111 ∧ ¬ (55296 ≤ x.2 ∧ x.2 ≤ 57343)
  | 0, _, x, h => by simp [letM] at h
  | f + 1, p, x, h => by
    simp only [letM] at h
    by_cases hp : p < s.size
    · rw [Eqv.read_one hp] at h
      cases h1 : Ref.oneF s p with
      | none => rw [h1] at h; simp [Eqv.ahead] at h
      | some nc =>
        obtain ⟨m, d⟩ := nc
        rw [h1] at h
        simp only [Eqv.ahead, List.mem_cons] at h
        have hb := Ref.oneF_bd h1
        rcases h with rfl | h
        · exact ⟨(by show (0 : Int) ≤ (p : Int); omega), (by show (p : Int) ≤ s.size; omega), hb.2.2.2.2.1, hb.2.2.2.2.2.1, hb.2.2.2.2.2.2⟩
        · exact letM_in s f _ x h
    · rw [show readM s p = none by unfold readM; rw [if_neg hp]] at h
      simp at h
theorem letM_len (s : ByteArray) : ∀ (f p : Nat), (letM s f p).length ≤ f
  | 0, _ => by simp [letM]
  | f + 1, p => by
    simp only [letM]
    split
    · simp
    · simp; exact letM_len s f _
theorem runeN_bd (c : Int) : 1 ≤ runeN c ∧ runeN c ≤ 4 := by unfold runeN; (repeat' split) <;> omega
end Pro

theorem Only.later {P Q : Nat → Prop} {a w w' : World} (h : Only P a w) (k : Only Q w w') (hq : ∀ i, Q i → a.heap.size ≤ i) : Only P a w' :=
  ⟨k.os.trans h.os, k.tape.trans h.tape, k.output.trans h.output, Nat.le_trans h.size k.size, fun i hi hp => (k.block i (Nat.lt_of_lt_of_le hi h.size) (fun q => by have := hq i q; omega)).trans (h.block i hi hp)⟩

theorem Tryz.infoLetter : (Tryz.prog.info? 164).map (fun i => (i.zero, i.size, i.bytes)) = some (some (.agg #[.int .i64 0, .int .i32 0]), 2, 16) := by kernel_rfl

/-- Between two rounds: the letters so far, and where the last of them ended. -/
def LetI (w : World) (pre : List (Int × Int)) (W : World) : Prop := ∃ v, Boxed W w.heap.size 127 v ∧ W.ownsRow (w.heap.size + 3) 164 2 v pre.length (Pro.letCells pre) ∧ (pre = [] → v = .slice none 0 0) ∧
  Boxed W (w.heap.size + 1) 3 (.int .i64 (Pro.endOf pre)) ∧ Only (fun _ => False) w W ∧ w.heap.size + 3 ≤ W.heap.size

theorem LetI.keep {w : World} {pre : List (Int × Int)} {A A' : World} (h : LetI w pre A) (hA : Only (fun k => w.heap.size + 3 ≤ k ∧ (strB A k ∨ ∃ o, A.heap[k]? = some o ∧ o.isCells = false)) A A') : LetI w pre A' := by
  obtain ⟨v, h1, h2, h3, h4, h5, h6⟩ := h
  refine ⟨v, (hA.block _ h1.lt (fun hp => by omega)).trans h1, ?_, h3, (hA.block _ h4.lt (fun hp => by omega)).trans h4, h5.later hA (fun i hi => by omega), Nat.le_trans h6 hA.size⟩
  refine ⟨h2.1, ?_⟩
  rcases h2.2 with ⟨rfl, e⟩ | ⟨g, cap, cur, rfl, hb, hg, hc, hm, hs, ht⟩
  · exact .inl ⟨rfl, e⟩
  · refine .inr ⟨g, cap, cur, rfl, hb, (hA.block g (Array.getElem?_eq_some_iff.1 hg).1 ?_).trans hg, hc, hm, hs, ht⟩
    rintro ⟨_, hq⟩
    rcases hq with ⟨t, hq⟩ | ⟨o, ho, hq⟩
    · cases pre with
      | nil => have := h3 rfl; cases this
      | cons x r =>
        have e0 := h2.cellAt 0 (by simp)
        rw [e0] at hq
        simp [Pro.letCells] at hq
    · rw [hg] at ho; cases ho; cases hq

theorem LetI.keepT {w W W' : World} {pre : List (Int × Int)} {v : Value} {e : Int} (h1 : Boxed W w.heap.size 127 v) (hv : ∃ a b c, v = .slice a b c) (h2 : W.ownsRow (w.heap.size + 3) 164 2 v pre.length (Pro.letCells pre)) (h3 : pre = [] → v = .slice none 0 0)
    (h4 : Boxed W (w.heap.size + 1) 3 (.int .i64 e)) (hA : Only (fun k => k = w.heap.size ∨ k = w.heap.size + 1 ∨ v.ownBlock = some k) W W') : KeepT W W' := by
  refine ⟨hA.size, ?_⟩
  rintro k ⟨t, ht⟩
  refine hA.block k (World.block_lt_of_cell? W _ ht) ?_
  rintro (rfl | rfl | hk)
  · obtain ⟨a, b, c, rfl⟩ := hv
    rw [h1.cell] at ht; cases ht
  · rw [h4.cell] at ht; cases ht
  · rcases h2.2 with ⟨rfl, e⟩ | ⟨g, cap, cur, rfl, _⟩
    · simp [Value.ownBlock] at hk
    · simp [Value.ownBlock] at hk
      subst hk
      cases pre with
      | nil => have := h3 rfl; cases this
      | cons x r =>
        have e0 := h2.cellAt 0 (by simp)
        rw [e0] at ht
        simp [Pro.letCells] at ht

set_option maxHeartbeats 4000000 in
set_option maxRecDepth 1000000 in
theorem letters_any (s : ByteArray) (hs : s.size ≤ 400) (w : World) (T : TypeId) (y : Value) (hsent : w.cell? ⟨2, 0, none⟩ = some (.iface T y)) (_hw : 10 ≤ w.heap.size) :
    Calls Tryz.prog 47 #[.string s] w fun x w' => Only (fun _ => False) w w' ∧
      ((¬ Pro.endOf (Pro.letM s (s.size + 1) 0) < s.size ∧ ∃ v, x = .returned (.tuple #[v, .nilIface]) ∧ w'.ownsRow (w.heap.size + 3) 164 2 v (Pro.letM s (s.size + 1) 0).length (Pro.letCells (Pro.letM s (s.size + 1) 0))) ∨
       (Pro.endOf (Pro.letM s (s.size + 1) 0) < s.size ∧ ∃ v, x = .returned (.tuple #[.slice none 0 0, v]) ∧ FaultAt w' w.heap.size v (.iface T y) (Pro.endOf (Pro.letM s (s.size + 1) 0)))) := by
  obtain ⟨i0, hi, hz0, hz1, hz2⟩ := info_parts Tryz.infoLetter
  refine (callsIn_wide (n := 5)).1 ?_
  refine callsIn_of_wp_marks Tryz.func47 rfl trivial ?_ rfl
  simp only [Tryz.ntmps47, List.size_toArray, List.length_cons, List.length_nil, Nat.reduceAdd, Nat.reduceSub, Array.replicate_succ, Array.replicate_zero, List.push_toArray, List.append_toArray, List.nil_append, List.cons_append]
  gi_wp2_with (refine ⟨trivial, ?_⟩; gi_at_call 68; refine (callsIn_wide.2 (each_any s _)).mono ?_; rintro e w1 ⟨rfl, rfl⟩)
  have b1 := ((Boxed.new w 127 (.slice none 0 0)).alloc (.cells #[.int .i64 0] 3)).alloc (.cells #[.string s] 9)
  have b2 := (Boxed.new (w.alloc (.cells #[.slice none 0 0] 127)) 3 (.int .i64 0)).alloc (.cells #[.string s] 9)
  have b3 := (Boxed.new ((w.alloc (.cells #[.slice none 0 0] 127)).alloc (.cells #[.int .i64 0] 3)) 9 (.string s)).cell
  have hO0 : Only (fun _ => False) w (((w.alloc (.cells #[.slice none 0 0] 127)).alloc (.cells #[.int .i64 0] 3)).alloc (.cells #[.string s] 9)) := (((Only.refl _ w).alloc _).alloc _).alloc _
  have hz : (((w.alloc (.cells #[.slice none 0 0] 127)).alloc (.cells #[.int .i64 0] 3)).alloc (.cells #[.string s] 9)).heap.size = w.heap.size + 3 := by simp
  simp only [World.size_alloc] at b2 b3
  generalize (((w.alloc (.cells #[.slice none 0 0] 127)).alloc (.cells #[.int .i64 0] 3)).alloc (.cells #[.string s] 9)) = W0 at *
  have HS := hide (And.intro hi (And.intro hz0 (And.intro hz1 hz2)))
  clear hi hz0 hz1 hz2
  refine wpIn_rangeT (F := Fence.wide) rfl (by omega) (gf := 87) (lb := #[.pointer (some ⟨w.heap.size + 1 + 1, 0, none⟩)]) rfl trivial (enters_of Tryz.func87 (by kernel_rfl) rfl)
    (each_seq s hs (w.heap.size + 1 + 1) W0 b3 4 (by omega)) (fun _ => rfl) (LetI w) (fun pre A A' h hA => h.keep (hA.mono (fun k _ hp => ⟨by have := hp.1; omega, hp.2⟩)))
    ⟨.slice none 0 0, b1, World.ownsRow_nil _ _ _ _, fun _ => rfl, b2, hO0, by omega⟩
    (fun x => { tmps := #[.string s, undef, .slice none 0 0, .nilIface, .pointer (some ⟨w.heap.size, 0, none⟩), .pointer (some ⟨w.heap.size + 1, 0, none⟩), .int .i64 x.1, .int .i32 x.2, .string s, .func (.func 87) #[] #[.pointer (some ⟨w.heap.size + 1 + 1, 0, none⟩)], .int .i64 x.1, .int .i32 x.2, undef, undef, undef, undef, undef, undef, undef, undef, undef, undef, undef, undef, undef, undef, undef, undef, undef, undef], defers := [] }) ?assign ?body ?done
  case assign =>
    intro l x W K hK
    gi_wp2
    exact hK
  case body =>
    rintro l pre x W ⟨v, bv, hrow, hnil, bE, hO, hsz⟩ hpre
    obtain ⟨hi, hz0, hz1, hz2⟩ := unhide HS
    have hmem := Pro.letM_in s (s.size + 1) 0 x (hpre.subset (by simp))
    have hlen : pre.length + 1 ≤ 401 := by have := hpre.length_le; have h2 := Pro.letM_len s (s.size + 1) 0; simp at this; omega
    obtain ⟨hx0, hx1, hc0, hc1, hc2⟩ := hmem
    have hrn := Pro.runeN_bd x.2
    obtain ⟨pa, pn, pc, rfl⟩ := own_slice hrow
    have k1 := bv.cell
    have Hrow := hide hrow
    obtain ⟨xa, xc⟩ := x
    simp only [] at hx0 hx1 hc0 hc1 hc2 hrn ⊢
    gi_wp2_with (gi_at_builtin; refine unhide ?_)
    refine hide ?_
    refine wpListIn_append_own _ rfl _ _ 127 rfl (w.heap.size + 3) 164 i0 (.agg #[.int .i64 0, .int .i32 0]) 2 16 Tryz.underlying127 hi hz0 hz1 hz2 rfl (by decide) (.slice pa pn pc) _ _ rfl (World.ownsRow.alloc hrow _) ⟨W.heap.size, 0, none⟩ 1 1 [.int .i64 xa, .int .i32 xc] rfl rfl (cell_two_new _ _ _ _) (fun u hu => by simp at hu; rcases hu with rfl | rfl <;> rfl) (by unfold maxLen; omega) (by omega) (by simp; omega) ?_
    intro v' w1 hown' hgrow _
    obtain ⟨g', cap', rfl⟩ := ownsRow_succ hown'
    have bv1 : Boxed w1 w.heap.size 127 (.slice pa pn pc) := (bv.alloc _).kept hgrow (bv.not_row (by decide) hrow)
    have bE1 : Boxed w1 (w.heap.size + 1) 3 (.int .i64 (Pro.endOf pre)) := (bE.alloc _).kept hgrow (bE.not_row (by decide) hrow)
    have bE2 := bE1.other (B' := w.heap.size) (by omega) (.slice (some ⟨g', 0, none⟩) (pre.length + 1) cap')
    have HOW : Hid (Only (fun k => k = w.heap.size ∨ k = w.heap.size + 1 ∨ (Value.slice pa pn pc).ownBlock = some k) W w1) := ((Only.refl _ W).alloc _).grown hgrow (fun k e => .inl (.inr (.inr e)))
    have HKO : Hid (KeepsOthers W w1) := (KeepsOthers.alloc W _).trans (KeepsOthers.of_grownBy hgrow fun q o ej hj => by
      rcases (World.ownsRow.alloc hrow (.cells #[.int .i64 xa, .int .i32 xc] 164)).2 with ⟨e, _⟩ | ⟨g, cap, cur, e, _, hgb, _⟩
      · cases e; simp [Value.ownBlock] at ej
      · cases e
        obtain rfl : g = q := by simpa [Value.ownBlock] using ej
        rw [hgb] at hj; cases hj; rfl)
    have r1 := bv1.cell
    have r2 := bv1.frozen
    have r3 := bE2.cell
    have r4 := bE2.frozen
    have HOWN := hide hown'
    have HB1 := hide bv1
    have HB2 := hide bE2
    have HB0 := hide bE
    have HBV := hide bv
    clear hrow hown' hgrow bv1 bE2 bE1 bE bv
    gi_wp2_with (refine ⟨trivial, ?_⟩; gi_at_call 69; refine (CallsIn.inRound l (callsIn_wide.2 (runeLen_any xc _ hc0 hc1 hc2))).mono ?_; rintro e wq ⟨rfl, hwq⟩; have hwr := hwq.symm; subst hwr; clear hwq)
    have HO2 := ((unhide HOW).setCell (p := ⟨w.heap.size, 0, none⟩) (.inl (.inl rfl)) (.slice (some ⟨g', 0, none⟩) (pre.length + 1) cap')).setCell (p := ⟨w.heap.size + 1, 0, none⟩) (.inl (.inr (.inl rfl))) (.int .i64 (xa + Pro.runeN xc))
    have own1 := (unhide HOWN).kept (grownBy_setCell' w1 w.heap.size (.slice (some ⟨g', 0, none⟩) (pre.length + 1) cap')) (.inr (Boxed.not_row (unhide HB1) (by decide) (unhide HOWN)).symm)
    have own2 := own1.kept (grownBy_setCell' _ (w.heap.size + 1) (.int .i64 (xa + Pro.runeN xc))) (.inr (Boxed.not_row (unhide HB2) (by decide) own1).symm)
    refine ⟨(((unhide HKO).trans (KeepsOthers.setCell _ _ _)).trans (KeepsOthers.setCell _ _ _)).from _, LetI.keepT (unhide HBV) ⟨pa, pn, pc, rfl⟩ (unhide Hrow) hnil (unhide HB0) HO2, ?_⟩
    refine ⟨.slice (some ⟨g', 0, none⟩) (pre.length + 1) cap', Boxed.other (Boxed.set _ (unhide HB1)) (by omega) _, ?_, fun h => by simp at h, ?_, hO.later HO2 ?_, Nat.le_trans hsz HO2.size⟩
    · rw [Pro.letCells_append, List.length_append]; exact own2
    · rw [Pro.endOf_snoc]; exact Boxed.set _ (unhide HB2)
    · rintro i (rfl | rfl | hi)
      · omega
      · omega
      · have := (unhide Hrow).lt i hi; omega
  case done =>
    rintro D W hD ⟨v, bv, hrow, hnil, bE, hO, hsz⟩ hK
    have hen : 0 ≤ Pro.endOf (Pro.letM s (s.size + 1) 0) ∧ Pro.endOf (Pro.letM s (s.size + 1) 0) ≤ 500 := by
      rcases List.eq_nil_or_concat (Pro.letM s (s.size + 1) 0) with e | ⟨pre, x, e⟩
      · rw [e]; simp [Pro.endOf]
      · have hm := Pro.letM_in s (s.size + 1) 0 x (by rw [e]; simp)
        have hr := Pro.runeN_bd x.2
        rw [e, List.concat_eq_append, Pro.endOf_snoc]
        omega
    have hs1 := (hO.cell (p := ⟨2, 0, none⟩) (World.block_lt_of_cell? w _ hsent) (fun f => f)).trans hsent
    obtain ⟨pa, pn, pc, rfl⟩ := own_slice hrow
    have k1 := bv.cell
    have k2 := bE.cell
    generalize hEn : Pro.endOf (Pro.letM s (s.size + 1) 0) = en at *
    by_cases hE : en < s.size
    · gi_wp2_with (refine ⟨trivial, ?_⟩; gi_at_call 46; refine (callsIn_wide.2 (new_any T y en _)).mono ?_; rintro e w1 ⟨v, rfl, hv, hO1⟩)
      subst hEn
      have hDl : D < W.heap.size := (Array.getElem?_eq_some_iff.1 hK).1
      have hK1 := (hO1.block D hDl (fun f => f)).trans hK
      refine ⟨by simp, .inl ⟨_, _, rfl, run_takeDeferred hK1, ?_⟩⟩
      refine ⟨_, results_tmp2 rfl _ _ _, ((hO.trans hO1).putObj _ _ (.inr (by omega))), .inr ⟨v, rfl, ?_⟩⟩
      exact (hv.keep ((Only.refl (fun k => k = D) w1).putObj D _ (.inl rfl)) (fun g hg => by omega)).base (base' := w.heap.size) (by omega)
    · gi_wp2
      subst hEn
      refine ⟨by simp, .inl ⟨_, _, rfl, run_takeDeferred hK, ?_⟩⟩
      refine ⟨_, results_tmp2 rfl _ _ _, (hO.putObj _ _ (.inr (by omega))), .inl ⟨_, rfl, ownsRow_putObj hrow _ hK rfl⟩⟩
end Go.Proofs.YtdhmllobgijggaaGreatDoor
namespace Go.Proofs.YtdhmllobgijggaaGreatDoor
open Go.RowKit

namespace Eqv
theorem end_chars (s : ByteArray) : ∀ (f p : Nat) (acc : List (Int × Int)), s.size < p + f → p ≤ s.size →
    ((Ref.charsF s f p acc).2 = -1 ∧ (Pro.letM s f p).foldl (fun _ x => x.1 + Pro.runeN x.2) (p : Int) = s.size) ∨
    (∃ q : Nat, (Ref.charsF s f p acc).2 = q ∧ q < s.size ∧ (Pro.letM s f p).foldl (fun _ x => x.1 + Pro.runeN x.2) (p : Int) = q)
  | 0, p, acc, h, hp => by omega
  | f + 1, p, acc, h, hp => by
    by_cases hlt : p < s.size
    · have hr := read_one hlt
      cases h1 : Ref.oneF s p with
      | none =>
        rw [h1] at hr
        right
        refine ⟨p, by rw [Ref.charsF_bad hlt h1], hlt, ?_⟩
        simp only [Pro.letM]
        rw [hr]
        rfl
      | some nc =>
        obtain ⟨m, d⟩ := nc
        rw [h1] at hr
        have hb := Ref.oneF_bd h1
        have e : Pro.letM s (f + 1) p = ((p : Int), d) :: Pro.letM s f (p + m) := by
          simp only [Pro.letM]; rw [hr]; rfl
        rw [e, Ref.charsF_good hlt h1, List.foldl_cons]
        have := end_chars s f (p + m) (acc ++ [(d, (p : Int))]) (by omega) (by omega)
        rw [show (p : Int) + Pro.runeN d = ((p + m : Nat) : Int) by rw [one_len h1]; omega]
        exact this
    · left
      rw [Ref.charsF_end hlt]
      refine ⟨rfl, ?_⟩
      simp only [Pro.letM]
      rw [show Pro.readM s p = none by unfold Pro.readM; rw [if_neg hlt]]
      show (p : Int) = s.size
      omega
/-- A text is one, or its first bad byte is told. -/
theorem end_told (s : ByteArray) : ((Ref.charsR s).2 = -1 ∧ Pro.endOf (Pro.letM s (s.size + 1) 0) = s.size) ∨ (0 ≤ (Ref.charsR s).2 ∧ Pro.endOf (Pro.letM s (s.size + 1) 0) = (Ref.charsR s).2 ∧ Pro.endOf (Pro.letM s (s.size + 1) 0) < s.size) := by
  rcases end_chars s (s.size + 1) 0 [] (by omega) (by omega) with ⟨h1, h2⟩ | ⟨q, h1, h2, h3⟩
  · exact .inl ⟨h1, h2⟩
  · right
    have e : Pro.endOf (Pro.letM s (s.size + 1) 0) = q := h3
    have e2 : (Ref.charsR s).2 = q := h1
    rw [e, e2]
    exact ⟨by omega, rfl, by omega⟩
end Eqv
end Go.Proofs.YtdhmllobgijggaaGreatDoor
