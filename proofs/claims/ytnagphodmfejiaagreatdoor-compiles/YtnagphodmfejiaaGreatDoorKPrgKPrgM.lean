/- The program's cuts. The program of a pattern, made. The program of a pattern, made: New. -/
import Derived.Test.YtnagphodmfejiaaGreatDoorKBldESrtN
import Derived.Test.YtnagphodmfejiaaGreatDoorKSemETrI
namespace Go.Proofs.YtnagphodmfejiaaGreatDoor
open Go.RowKit Go.Shelf
attribute [local go_sem] Oper.semAt_some
theorem appendIn_sep {F : Fence} {nF : Nat} {P : Program} (w : World) {ops : Array Oper} {rest : List Oper} {o : Oper} {a : Act} {Q : Exit → Act → World → Prop} (hgd : o.guard = none) (s x : Operand) (t : TypeId)
   (ho : o.op = .call { callee := .builtin .append, args := #[s, x], argTypes := #[t, t] })
   (base : Nat) (e : TypeId) (i : TypeInfo) (z : Value) (size bytes : Nat) (ht : P.underlying t = some (.slice e)) (hi : P.info? e = some i) (hz : i.zero = some z)
   (hsize : i.size = size) (hby : i.bytes = bytes) (hzs : z.cells.size = size) (hsz : 0 < size)
   (v : Value) (n : Nat) (xs : List Value) (hs : a.eval s = v) (hown : w.ownsRow base e size v n xs)
   (ad : Addr) (m c : Nat) (news : List Value) (hx : a.eval x = .slice (some ad) m c) (hl : news.length = m * size) (hnews : ∀ j u, news[j]? = some u → w.cell? (ad.add j) = some u) (h1 : ∀ u ∈ news, u.oneCell' = true)
   (_hm : 0 < m) (h63 : n + m ≤ maxLen) (hbytes : (n + m) * bytes ≤ 140737488355328) (hbase : base ≤ w.heap.size)
   (h : ∀ v' w', w'.ownsRow base e size v' (n + m) (xs ++ news) → w.grownBy w' v.ownBlock → (∀ k, v'.ownBlock = some k → v.ownBlock = some k ∨ w.heap.size ≤ k) → wpListIn F nF P ops Q rest (a.put o.dst v') w') : wpListIn F nF P ops Q (o :: rest) a w := by
 have hgr : ∀ w' row, w.grownBy w' none → w.grownBy w' row := fun w' row g => ⟨g.os, g.tape, g.output, g.size, fun k hk _ => g.block k hk (by simp)⟩
 rcases hown.2 with ⟨rfl, rfl⟩ | ⟨g, cap, cur, rfl, hbg, hg, hnc, hcm, hcs, htake⟩
 · have hxs : xs = [] := List.eq_nil_of_length_eq_zero (by simpa using hown.1)
   subst hxs
   exact wpListIn_append_own w hgd s x t ho w.heap.size e i z size bytes ht hi hz hsize hby hzs hsz _ 0 [] hs (World.ownsRow_nil _ _ _ _) ad m c news hx hl hnews h1 h63 hbytes (Nat.le_refl _) (fun v' w' h2 h3 _ => h v' w' (ownsRow_base h2 hbase) h3 (fun k hk => .inr (h2.lt k hk).1))
 · by_cases hroom : n + m ≤ cap
   · exact wpListIn_append_fits w hgd s x t ho base e i size ht hi hsize g n cap xs hs hown ad m c news hx hl hnews h1 hroom (fun w' h2 h3 => h _ w' h2 h3 (fun k hk => .inl hk))
   · refine wpListIn_plain hgd fun K hK' => ?_
     obtain ⟨v', w', hrun, r1, r2⟩ := run_append_arg_grows (P := P) w t o.type e i z size bytes ht hi hz hsize hby hzs hsz ⟨g, 0, none⟩ n cap xs hown.1 (hown.cells (g := g) rfl) ad m c news hl hnews (by omega) h63 hbytes
     unfold Oper.wpIn
     refine ⟨?_, ?_⟩
     · simp [Oper.about, ho, resolve, Target.leads, Sem.run_pure]
     · rw [Oper.semAt_plain F _ _ (by rw [ho]; intro c hc'; cases hc')]
       simp [execOp, ho, resolve, invoke, builtin, hs, hx, hrun, Result.andThen]
       exact hK' _ _ (h v' w' (ownsRow_base r1 hbase) (hgr _ _ r2) (fun k hk => .inr (r1.lt k hk).1))
theorem Tryz.infoRune : (Tryz.prog.info? 21).map (fun i => (i.zero, i.size, i.bytes)) = some (some (.int .i32 0), 1, 4) := by kernel_rfl
def runeCells (cs : List Int) : List Value := cs.map (Value.int .i32)
structure CutS (w : World) (O : Nat → Prop) (X : World) (B : Nat) : Prop where
 ex : ∃ sv cs, X.cell? ⟨w.heap.size, 0, none⟩ = some sv ∧ X.ownsRow (w.heap.size + 1) 21 1 sv cs.length (runeCells cs) ∧ cs.length ≤ B ∧ ∀ k, O k ↔ k = w.heap.size ∨ sv.ownBlock = some k
 fr : X.frozen? ⟨w.heap.size, 0, none⟩ = false
 only : Only (fun _ => False) w X
 size : w.heap.size + 1 ≤ X.heap.size
theorem CutS.keep {w X X' : World} {O : Nat → Prop} {B B2 : Nat} (h : CutS w O X B) (hB : w.heap.size + 1 ≤ B2) (k : Only (fun k => B2 ≤ k ∧ ¬ O k) X X') : CutS w O X' B := by
 obtain ⟨sv, cs, h1, h2, h3, h4⟩ := h.ex
 have hn : ¬ (B2 ≤ w.heap.size ∧ ¬ O w.heap.size) := fun h => by omega
 have hs := h.size
 exact ⟨⟨sv, cs, (k.cell (p := ⟨w.heap.size, 0, none⟩) (by show _ < _; simp only; omega) hn).trans h1, ownsRow_keep h2 k (fun g hg hp => hp.2 ((h4 g).2 (.inr hg))), h3, h4⟩, (k.frozen (p := ⟨w.heap.size, 0, none⟩) (by show _ < _; simp only; omega) hn).trans h.fr,
   ⟨k.os.trans h.only.os, k.tape.trans h.only.tape, k.output.trans h.only.output, Nat.le_trans h.only.size k.size, fun j hj _ => (k.block j (by omega) (fun hp => by omega)).trans (h.only.block j hj (fun f => f))⟩, Nat.le_trans h.size k.size⟩
theorem CutS.lt {w X : World} {O : Nat → Prop} {B : Nat} (h : CutS w O X B) : ∀ k, O k → k < X.heap.size := fun k hk => by
 obtain ⟨sv, cs, h1, h2, h3, h4⟩ := h.ex
 rcases (h4 k).1 hk with e | e
 · have := h.size; omega
 · exact (ownsRow_block h2 k e).2
theorem CutS.up {w X : World} {O : Nat → Prop} {B C : Nat} (h : CutS w O X B) (hBC : B ≤ C) : CutS w O X C := by
 obtain ⟨sv, cs, h1, h2, h3, h4⟩ := h.ex
 exact ⟨⟨sv, cs, h1, h2, by omega, h4⟩, h.fr, h.only, h.size⟩
theorem runeCells_append (a b : List Int) : runeCells (a ++ b) = runeCells a ++ runeCells b := by simp [runeCells]
theorem CutS.push {w X V : World} {O : Nat → Prop} {B B' : Nat} {sv v' : Value} {cs : List Int} {a b : Int} (h : CutS w O X B) (q1 : X.cell? ⟨w.heap.size, 0, none⟩ = some sv) (q2 : X.ownsRow (w.heap.size + 1) 21 1 sv cs.length (runeCells cs)) (q3 : cs.length + 2 ≤ B') (q4 : ∀ k, O k ↔ k = w.heap.size ∨ sv.ownBlock = some k)
   (hk : Only (fun k => sv.ownBlock = some k) X V) (hown : V.ownsRow (w.heap.size + 1) 21 1 v' (cs.length + 2) (runeCells cs ++ [.int .i32 a, .int .i32 b])) (hsep : ∀ k, v'.ownBlock = some k → sv.ownBlock = some k ∨ X.heap.size ≤ k) :
   CutS w (fun k => k = w.heap.size ∨ v'.ownBlock = some k) (V.setCell ⟨w.heap.size, 0, none⟩ v') B' ∧ (∀ k, (k = w.heap.size ∨ v'.ownBlock = some k) → O k ∨ X.heap.size ≤ k) ∧ Only O X (V.setCell ⟨w.heap.size, 0, none⟩ v') := by
 have hs := h.size
 have hn : ¬ sv.ownBlock = some w.heap.size := fun e => by have := (ownsRow_block q2 _ e).1; omega
 have hn' : ¬ v'.ownBlock = some w.heap.size := fun e => by have := (ownsRow_block hown _ e).1; omega
 have c1 := (hk.cell (p := ⟨w.heap.size, 0, none⟩) (World.block_lt_of_cell? _ _ q1) hn).trans q1
 have c2 := (hk.frozen (p := ⟨w.heap.size, 0, none⟩) (World.block_lt_of_cell? _ _ q1) hn).trans h.fr
 have hst : Only (fun k => k = w.heap.size) V (V.setCell ⟨w.heap.size, 0, none⟩ v') := (Only.refl (fun k => k = w.heap.size) V).setCell (p := ⟨w.heap.size, 0, none⟩) (.inl rfl) _
 have hO : Only O X (V.setCell ⟨w.heap.size, 0, none⟩ v') := (hk.mono (fun k _ e => (q4 k).2 (.inr e))).setCell (p := ⟨w.heap.size, 0, none⟩) (.inl ((q4 _).2 (.inl rfl))) _
 have hl : (cs ++ [a, b]).length = cs.length + 2 := by simp
 refine ⟨⟨⟨v', cs ++ [a, b], World.cell?_setCell_same _ _ _ c1, ?_, by omega, fun k => Iff.rfl⟩, (frozen_setCell _ _ _ _).trans c2, ?_, Nat.le_trans hs hO.size⟩, fun k hk2 => ?_, hO⟩
 · rw [hl, runeCells_append]
   exact ownsRow_keep hown hst (fun g hg e => hn' (e ▸ hg))
 · exact ⟨hO.os.trans h.only.os, hO.tape.trans h.only.tape, hO.output.trans h.only.output, Nat.le_trans h.only.size hO.size, fun j hj _ => (hO.block j (by have := h.only.size; omega) (fun e => by
     rcases (q4 j).1 e with e | e
     · omega
     · have := (ownsRow_block q2 _ e).1; omega)).trans (h.only.block j hj (fun f => f))⟩
 · rcases hk2 with e | e
   · exact .inl ((q4 k).2 (.inl e))
   · exact (hsep k e).imp_left (fun e => (q4 k).2 (.inr e))
theorem CutS.row {w X : World} {blk n cap : Nat} {cs : List Int} (q2 : X.ownsRow (w.heap.size + 1) 21 1 (.slice (some ⟨blk, 0, none⟩) n cap) n (runeCells cs)) : RowI X blk 0 n ∧ n ≤ cap := by
 rcases q2.2 with ⟨h1, _⟩ | ⟨g', cap', cur, h1, h2, h3, h4, h5, h6, h7⟩
 · cases h1
 · cases h1
   have hl : cs.length = n := by have := q2.1; simpa [runeCells] using this
   have hc : ∀ t, t < n → cur[t]? = some (.int .i32 (cs.getD t 0)) := fun t ht => by
     have e1 : (cur.toList.take (n * 1))[t]? = (runeCells cs)[t]? := by rw [h7]
     rw [List.getElem?_take_of_lt (by omega)] at e1
     rw [← Array.getElem?_toList, e1]
     simp [runeCells, List.getElem?_map, List.getElem?_eq_getElem (show t < cs.length by omega)]
   refine ⟨⟨fun t => cs.getD t 0, fun t ht => ?_, fun t ht => ?_⟩, by omega⟩
   · unfold World.cell?
     rw [h3]
     simpa using hc t ht
   · unfold World.frozen?
     rw [h3]
     simp
set_option maxHeartbeats 4000000 in
set_option maxRecDepth 1000000 in
theorem cutsOf_any (gf : Nat) (lb : Array Value) (xs : List Slc) (D : Nat → Prop) (w : World) (eg : ∀ args w, (callFunc gf args).run Tryz.prog w = .ok (.enter gf args) w) (hseq : SeqO Fence.wide 8 Tryz.prog gf lb encSet xs D w) (hD : ∀ k, D k → k < w.heap.size) (hl : xs.length ≤ 1001) (hset : ∀ p ∈ xs, ∃ l A, SpanRow w A (slV p) l ∧ Cs.Rising l) :
   Calls Tryz.prog 65 #[.func (.func gf) #[] lb] w fun e w' => (∃ a k c, e = .returned (.slice a k c)) ∧ Only (fun _ => False) w w' := by
 obtain ⟨i0, hi, hz0, hz1, hz2⟩ := info_parts Tryz.infoRune
 have HSeq := hide hseq
 have HD := hide hD
 have HSt := hide hset
 have HInfo := hide (And.intro hi (And.intro hz0 (And.intro hz1 hz2)))
 clear hseq hD hset hi hz0 hz1 hz2
 refine (callsIn_wide (n := 9)).1 ?_
 refine callsIn_of_wp_marks Tryz.func65 rfl trivial ?_ rfl
 simp only [Tryz.ntmps65, List.size_toArray, List.length_cons, List.length_nil, Nat.reduceAdd, Nat.reduceSub, Array.replicate_succ, Array.replicate_zero, List.push_toArray, List.append_toArray, List.nil_append, List.cons_append]
 gi_wp2
 have HO1 : Hid (Only (fun _ => False) w (w.alloc (.cells #[.slice none 0 0] 158))) := (Only.refl _ _).alloc _
 have hsz : (w.alloc (.cells #[.slice none 0 0] 158)).heap.size = w.heap.size + 1 := by simp
 have HI0 : Hid (CutS w (fun k => k = w.heap.size) (w.alloc (.cells #[.slice none 0 0] 158)) 0) := ⟨⟨.slice none 0 0, [], new_cell w _ rfl _ _ 0 _ rfl, World.ownsRow_nil _ _ _ _, Nat.le_refl _, (fun k => by simp [Value.ownBlock])⟩, new_frozen w _ rfl _ _ 0, unhide HO1, by omega⟩
 generalize w.alloc (.cells #[.slice none 0 0] 158) = w1 at *
 refine wpIn_rangeA (F := Fence.wide) rfl (by omega) (gf := gf) (lb := lb) rfl trivial eg
   ((unhide HSeq).later (unhide HO1)) (fun _ => rfl) (fun pre O X => CutS w O X (2300000 * pre.length)) (fun k => k = w.heap.size) (fun k hk => by omega) (fun k hk => by have := unhide HD k hk; exact ⟨by omega, by omega⟩) (fun pre O X X' h k => h.keep (by omega) k) (unhide HI0)
   (fun x a V => ∃ k, a = { tmps := #[.func (.func gf) #[] lb, undef, .slice none 0 0, .pointer (some ⟨w.heap.size, 0, none⟩), .pointer (some ⟨k, 0, none⟩), undef, undef, .func (.func gf) #[] lb, .agg #[slV x], undef, undef, undef, undef, undef, undef, undef, undef, undef, undef, undef, undef, undef, undef], defers := [] } ∧ V.cell? ⟨k, 0, none⟩ = some (slV x)) ?ax ?assign ?body ?done
 case ax =>
   rintro x a V l o o' ⟨k, h1, h2⟩ hl' ho
   have hkl : k ≠ l := by
     rintro rfl
     unfold World.cell? at h2
     rw [hl'] at h2
     cases o with
     | cells c T f => simp [Obj.isCells] at ho
     | _ => simp at h2
   exact ⟨k, h1, (World.cell?_of_block (w := V) (World.putObj_heap_other hkl)).trans h2⟩
 case assign =>
   intro l x W K hK
   obtain ⟨xa, xn, xc⟩ := x
   unfold encSet
   simp only [slV] at hK ⊢
   have hA : Only (fun _ => False) W (W.alloc (.cells #[.slice xa xn xc] 153)) := (Only.refl _ _).alloc _
   have hC : (W.alloc (.cells #[.slice xa xn xc] 153)).cell? ⟨W.heap.size, 0, none⟩ = some (.slice xa xn xc) := new_cell W _ rfl _ _ 0 _ rfl
   gi_wp2
   exact hK _ _ hA ⟨W.heap.size, rfl, hC⟩
 case body =>
   rintro l pre O x a V hl2 hOl ⟨r, hr⟩ hI hpre ⟨k, rfl, hk⟩
   obtain ⟨ls, A, hrow, hri⟩ := unhide HSt x (hpre.subset (by simp))
   obtain ⟨xa, xn, xc⟩ := x
   simp only [slV] at hk hrow ⊢
   have HIv := hide hI
   have hlen := hri.len
   have hprel := hpre.length_le
   simp only [List.length_append, List.length_singleton] at hprel
   have HRi := hide hri
   have HRow := hide (hrow.mono (B := fun g => g < w.heap.size) (fun g hg _ => hg))
   clear hI hrow hri
   gi_wp2
   refine ⟨trivial, (CallsIn.inRound l (callsIn_wide.2 (ranges_any _ _ ⟨_, _, _, rfl⟩))).mono ?_⟩
   rintro e V1 ⟨v, rfl, kb2, rfl, hk21, hk22, hO2⟩
   have HO2 := hide hO2
   have HK2 := hide hk22
   have hr2 := (hO2.block l (Array.getElem?_eq_some_iff.1 hr).1 (fun f => f)).trans hr
   have hsV := (unhide HIv).size
   have hs2 := hO2.size
   have HIv2 : Hid (CutS w O V1 (2300000 * pre.length)) := (unhide HIv).keep (B2 := w.heap.size + 1) (Nat.le_refl _) (hO2.mono (fun _ _ f => f.elim))
   have HRow2 := hide ((unhide HRow).keep ((unhide HIv).only.trans hO2) (fun _ _ f => f))
   clear hO2 hk22
   gi_wp2
   refine wpIn_rangeN (F := Fence.wide.inRound l) rfl hr2 (by omega) (gf := 194) (lb := #[.pointer (some ⟨kb2, 0, none⟩)]) rfl trivial (enters_of Tryz.func194 (by kernel_rfl) rfl)
     (eachSp_seq _ ls _ kb2 V1 (unhide HRow2) (unhide HK2) (by omega) (9 - 1 - 1 - 1) (by omega)) (fun _ => rfl) (fun pre2 O2 X => CutS w O2 X (2300000 * pre.length + 2 * pre2.length) ∧ Only O V1 X ∧ ∀ k, O2 k → O k ∨ V1.heap.size ≤ k) O (unhide HIv2).lt ?d (fun pre2 O2 X X' h k => ⟨h.1.keep (by omega) k, ⟨k.os.trans h.2.1.os, k.tape.trans h.2.1.tape, k.output.trans h.2.1.output, Nat.le_trans h.2.1.size k.size, fun j hj hn => (k.block j (Nat.lt_of_lt_of_le hj h.2.1.size) (fun hp => by omega)).trans (h.2.1.block j hj hn)⟩, h.2.2⟩) ⟨unhide HIv2, Only.refl _ _, fun k hk => .inl hk⟩
     (fun y => { tmps := #[.func (.func gf) #[] lb, undef, .slice none 0 0, .pointer (some ⟨w.heap.size, 0, none⟩), .pointer (some ⟨k, 0, none⟩), .int .i32 y.1, .int .i32 y.2, .func (.func gf) #[] lb, .agg #[.slice xa xn xc], .agg #[.slice xa xn xc], .func (.func 194) #[] #[.pointer (some ⟨kb2, 0, none⟩)], .int .i32 y.1, .int .i32 y.2, undef, undef, undef, undef, undef, undef, undef, undef, undef, undef], defers := [] }) ?assign2 ?body2 ?done2
   case d =>
     obtain ⟨sv, cs, q1, q2, q3, q4⟩ := (unhide HIv).ex
     rintro j (rfl | ⟨h1, h2⟩)
     · refine ⟨World.block_lt_of_cell? V1 _ (unhide HK2), fun hj => ?_⟩
       rcases (q4 j).1 hj with e | e
       · omega
       · have := (ownsRow_block q2 j e).2; omega
     · refine ⟨h2, fun hj => ?_⟩
       rcases (q4 j).1 hj with e | e
       · omega
       · have := (ownsRow_block q2 j e).1; omega
   case assign2 =>
     intro l' y W K hK
     unfold encSp
     gi_wp2
     exact hK
   case body2 =>
     rintro l' pre2 O2 y X hl' hOl' ⟨r', hr'⟩ ⟨hX, hOX, hsub⟩ hpre2
     have hy := (unhide HRi).2 y (hpre2.subset (by simp))
     have hp2l := hpre2.length_le
     simp only [List.length_append, List.length_singleton] at hp2l
     obtain ⟨sv, cs, q1, q2, q3, q4⟩ := hX.ex
     have q5 := hX.fr
     obtain ⟨pa, pn, pc, rfl⟩ := own_slice q2
     obtain ⟨hi, hz0, hz1, hz2⟩ := unhide HInfo
     obtain ⟨ya, yb⟩ := y
     unfold Cs.okS at hy
     simp only [] at hy ⊢
     have hyw : wrap32 (yb + 1) = yb + 1 := by unfold wrap32; omega
     have HXX := hide hX
     have Hq2 := hide q2
     have HOX := hide (And.intro hOX hsub)
     have hXs := hX.size
     clear hX q2 hOX hsub
     gi_wp2_with (gi_at_builtin; refine unhide ?_)
     refine hide ?_
     refine appendIn_sep _ rfl _ _ 158 rfl (w.heap.size + 1) 21 i0 (.int .i32 0) 1 4 Tryz.underlying158 hi hz0 hz1 hz2 rfl (by decide) (.slice pa pn pc) cs.length (runeCells cs) rfl (World.ownsRow.alloc (unhide Hq2) _) ⟨X.heap.size, 0, none⟩ 2 2 [.int .i32 ya, .int .i32 (yb + 1)] rfl rfl (cell_two_new _ _ _ _) (fun u hu => by simp at hu; rcases hu with rfl | rfl <;> rfl) (by omega) (by unfold maxLen; omega) (by omega) (by simp; omega) ?_
     intro v' V3 hown' hgrow hsep
     obtain ⟨pa2, pn2, pc2, rfl⟩ := own_slice hown'
     have hO3 := ((Only.refl (fun k => (Value.slice pa pn pc).ownBlock = some k) X).alloc (.cells #[.int .i32 ya, .int .i32 (yb + 1)] 21)).grown hgrow (fun k hk => .inl hk)
     have hnb : ¬ (Value.slice pa pn pc).ownBlock = some w.heap.size := fun e => by have := (ownsRow_block (unhide Hq2) _ e).1; omega
     have c1 := (hO3.cell (p := ⟨w.heap.size, 0, none⟩) (World.block_lt_of_cell? _ _ q1) hnb).trans q1
     have c2 := (hO3.frozen (p := ⟨w.heap.size, 0, none⟩) (World.block_lt_of_cell? _ _ q1) hnb).trans q5
     have HPu := hide ((unhide HXX).push q1 (unhide Hq2) (B' := 2300000 * pre.length + 2 * (pre2.length + 1)) (by omega) q4 hO3 hown' (fun k hk => (hsep k hk).imp_right (fun h => by simp at h; omega)))
     clear hown' hgrow hsep hO3
     gi_wp2
     obtain ⟨g1, g2, g3⟩ := unhide HPu
     have hOX := (unhide HOX).1
     refine ⟨_, ⟨by simpa using g1, ⟨g3.os.trans hOX.os, g3.tape.trans hOX.tape, g3.output.trans hOX.output, Nat.le_trans hOX.size g3.size, fun j hj hn => (g3.block j (Nat.lt_of_lt_of_le hj hOX.size) (fun ho => ((unhide HOX).2 j ho).elim hn (fun h => by omega))).trans (hOX.block j hj hn)⟩, fun k hk => ?_⟩, g2, g3, g1.lt⟩
     rcases g2 k hk with h | h
     · exact (unhide HOX).2 k h
     · exact .inr (Nat.le_trans hOX.size h)
   case done2 =>
     rintro O2 X ⟨hX, hOX, hsub⟩
     have hO2 := unhide HO2
     refine ⟨O2, hX.up (by simp; omega), fun k hk => (hsub k hk).imp_right (fun h => by omega), ⟨hOX.os.trans hO2.os, hOX.tape.trans hO2.tape, hOX.output.trans hO2.output, Nat.le_trans hO2.size hOX.size, fun j hj hn => (hOX.block j (by omega) hn).trans (hO2.block j hj (fun f => f))⟩, hX.lt⟩
 case done =>
   rintro Dm O V hDw hOD hX hK
   obtain ⟨sv, cs, q1, q2, q3, q4⟩ := hX.ex
   have hOw := hX.only
   have hXs := hX.size
   have hKV : Dm < V.heap.size := (Array.getElem?_eq_some_iff.1 hK).1
   have hOD2 : ¬ sv.ownBlock = some Dm := fun e => hOD ((q4 Dm).2 (.inr e))
   have hnb : ¬ sv.ownBlock = some w.heap.size := fun e => by have := (ownsRow_block q2 _ e).1; omega
   have hnw : ∀ k, sv.ownBlock = some k → w.heap.size + 1 ≤ k := fun k e => (ownsRow_block q2 k e).1
   clear hX
   have HFin : Hid (∀ V2, Only (fun k => sv.ownBlock = some k) V V2 → V2.heap[Dm]? = some (.deferred (some [])) ∧ Only (fun _ => False) w (V2.putObj Dm (.deferred none))) := fun V2 h => ⟨(h.block Dm hKV hOD2).trans hK, ⟨h.os.trans hOw.os, h.tape.trans hOw.tape, h.output.trans hOw.output, by rw [size_putObj]; exact Nat.le_trans hOw.size h.size, fun j hj _ => (World.putObj_heap_other (by omega)).trans ((h.block j (by have := hOw.size; omega) (fun e => by have := hnw j e; omega)).trans (hOw.block j hj (fun f => f)))⟩⟩
   rcases q2.2 with ⟨rfl, _⟩ | ⟨g, cap, cur, rfl, hbg, hg, hnc, hcm, hcs, htake⟩
   · clear q2 hOD2 hnb hnw hOw
     gi_wp2_with (refine ⟨trivial, ?_⟩; gi_at_call 119; refine (callsIn_wide.2 (sortN _)).mono ?_; rintro e V1 ⟨rfl, hO1⟩; have m1 := (hO1.cell (p := ⟨w.heap.size, 0, none⟩) (World.block_lt_of_cell? _ _ q1) (fun f => f)).trans q1; have HO1 := hide hO1; clear hO1)
     refine ⟨trivial, (callsIn_wide.2 (compact_nil _)).mono ?_⟩
     rintro e V2 ⟨⟨a2, k2, c2, rfl⟩, hO2⟩
     have HO2 := hide ((unhide HO1).trans hO2)
     clear hO2
     gi_wp2
     obtain ⟨g1, g2⟩ := unhide HFin _ ((unhide HO2).mono (fun _ _ f => f.elim))
     refine ⟨by simp, .inl ⟨_, _, rfl, run_takeDeferred g1, ?_⟩⟩
     exact ⟨_, results_tmp rfl _ _ _, ⟨_, _, _, rfl⟩, g2⟩
   · have hRow := CutS.row q2
     have hgl := (ownsRow_block q2 g rfl).2
     have HSo := hide (sortR g cs.length cap V hRow.1 hgl (by omega))
     have hcc := hRow.2
     clear q2 hOD2 hnw hOw hRow hcs htake
     have hgne : ¬ Mine g w.heap.size := fun e => hnb (by simp only [Value.ownBlock]; exact congrArg some e.symm)
     gi_wp2_with (refine ⟨trivial, ?_⟩; gi_at_call 119; refine (callsIn_wide.2 (unhide HSo)).mono ?_; rintro e V1 ⟨rfl, hO1, hR1⟩; have m1 := (hO1.cell (p := ⟨w.heap.size, 0, none⟩) (World.block_lt_of_cell? _ _ q1) hgne).trans q1; have HO1 := hide hO1; have HR1 := hide hR1; clear hO1 hR1)
     refine ⟨trivial, (callsIn_wide.2 (compactR g cs.length cap V1 (unhide HR1) (by omega) hcc)).mono ?_⟩
     rintro e V2 ⟨⟨a2, k2, c2, rfl⟩, hO2⟩
     have HO2 := hide ((unhide HO1).trans hO2)
     clear hO2
     gi_wp2
     obtain ⟨g1, g2⟩ := unhide HFin _ ((unhide HO2).mono (fun k _ f => by simp only [Value.ownBlock]; exact congrArg some (Eq.symm f)))
     refine ⟨by simp, .inl ⟨_, _, rfl, run_takeDeferred g1, ?_⟩⟩
     exact ⟨_, results_tmp rfl _ _ _, ⟨_, _, _, rfl⟩, g2⟩
end Go.Proofs.YtnagphodmfejiaaGreatDoor
namespace Go.Proofs.YtnagphodmfejiaaGreatDoor
open Go.RowKit Go.Shelf
open Sm (Stp)
abbrev Stl := Nat × Slc × Int × Nat × Nat
def encStl (x : Stl) : List Value := [.int .i64 (x.1 : Nat), slV x.2.1, .int .i64 x.2.2.1, .int .i64 (x.2.2.2.1 : Nat), .int .i64 (x.2.2.2.2 : Nat)]
def asksW (x : Stl) : Bool := decide (x.1 = 2) && (decide (x.2.2.1 = 2) || decide (x.2.2.1 = 3))
theorem asks_any (x : Stl) (w : World) : Calls Tryz.prog 63 #[.agg (encStl x).toArray] w fun e w' => e = .returned (.bool (asksW x)) ∧ Only (fun _ => False) w w' := by
 obtain ⟨k, ⟨pa, pn, pc⟩, a, n, o⟩ := x
 unfold encStl asksW slV
 simp only []
 have HO : Hid (Only (fun _ => False) w (w.alloc (.cells #[.int .i64 (k : Nat), .slice pa pn pc, .int .i64 a, .int .i64 (n : Nat), .int .i64 (o : Nat)] 156))) := (Only.refl _ _).alloc _
 by_cases hk : k = 2
 · subst hk
   by_cases h2 : a = 2
   · subst h2
     go_enter Tryz.func63, Tryz.ntmps63
     go_wp2
     go_ret
     exact ⟨by simp, unhide HO⟩
   · have h2d : (a == 2) = false := by simp [h2]
     by_cases h3 : a = 3
     · subst h3
       go_enter Tryz.func63, Tryz.ntmps63
       go_wp2
       go_ret
       exact ⟨by simp, unhide HO⟩
     · have h3d : (a == 3) = false := by simp [h3]
       go_enter Tryz.func63, Tryz.ntmps63
       go_wp2
       go_ret
       exact ⟨by simp [h2, h3], unhide HO⟩
 · have hkd : ((k : Int) == 2) = false := by simp; omega
   go_enter Tryz.func63, Tryz.ntmps63
   go_wp2
   go_ret
   exact ⟨by simp [hk], unhide HO⟩
theorem sets_any (pb : Nat) (w : World) : Calls Tryz.prog 66 #[.pointer (some ⟨pb, 0, none⟩)] w fun e w' => ∃ v, e = .returned v ∧ ∃ kb, v = .func (.func 121) #[] #[.pointer (some ⟨kb, 0, none⟩)] ∧ w.heap.size ≤ kb ∧ w'.cell? ⟨kb, 0, none⟩ = some (.pointer (some ⟨pb, 0, none⟩)) ∧ Only (fun _ => False) w w' := by
 have HO : Hid (∃ kb, Value.func (.func 121) #[] #[.pointer (some ⟨w.heap.size, 0, none⟩)] = .func (.func 121) #[] #[.pointer (some ⟨kb, 0, none⟩)] ∧ w.heap.size ≤ kb ∧ (w.alloc (.cells #[.pointer (some ⟨pb, 0, none⟩)] 65)).cell? ⟨kb, 0, none⟩ = some (.pointer (some ⟨pb, 0, none⟩)) ∧ Only (fun _ => False) w (w.alloc (.cells #[.pointer (some ⟨pb, 0, none⟩)] 65))) := ⟨_, rfl, Nat.le_refl _, new_cell w _ rfl _ _ 0 _ rfl, (Only.refl _ _).alloc _⟩
 go_enter Tryz.func66, Tryz.ntmps66
 go_wp2_with fail
 go_ret
 exact ⟨_, rfl, unhide HO⟩
structure NewAt (w V : World) (pb g cap st : Nat) (Z : List (Stp × Value)) (ws : Slc) (W : Int → Bool) : Prop where
 at' : StpsAt V pb g cap Z (slV ws)
 c1 : V.cell? ⟨pb, 1, none⟩ = some (.int .i64 (st : Nat))
 c3 : ∃ u, V.cell? ⟨pb, 3, none⟩ = some u
 f2 : V.frozen? ⟨pb, 2, none⟩ = false
 f3 : V.frozen? ⟨pb, 3, none⟩ = false
 sets : ∀ z ∈ Z, SetAt V (fun k => w.heap.size ≤ k ∧ k ≠ pb) (.agg #[z.2]) (Prg.setP z.1)
 word : SetAt V (fun k => w.heap.size ≤ k ∧ k ≠ pb) (.agg #[slV ws]) W
 own : w.heap.size ≤ pb ∧ w.heap.size ≤ g ∧ g ≠ pb
 only : Only (fun _ => False) w V
theorem NewAt.pl {w V : World} {pb g cap st : Nat} {Z : List (Stp × Value)} {ws : Slc} {W : Int → Bool} (h : NewAt w V pb g cap st Z ws W) : pb < V.heap.size := World.block_lt_of_cell? _ _ h.c1
theorem NewAt.keep {w V V' : World} {pb g cap st : Nat} {Z : List (Stp × Value)} {ws : Slc} {W : Int → Bool} (h : NewAt w V pb g cap st Z ws W) (k : Only (fun _ => False) V V') : NewAt w V' pb g cap st Z ws W := by
 have hp := h.pl
 obtain ⟨u, hu⟩ := h.c3
 have kc : ∀ o u, V.cell? ⟨pb, o, none⟩ = some u → V'.cell? ⟨pb, o, none⟩ = some u := fun o u e => (k.cell (p := ⟨pb, o, none⟩) hp (fun f => f)).trans e
 exact ⟨⟨kc _ _ h.at'.c0, kc _ _ h.at'.c2, h.at'.le, fun j u e => (k.cell (p := ⟨g, j, none⟩) h.at'.gl (fun f => f)).trans (h.at'.row j u e), Nat.lt_of_lt_of_le h.at'.gl k.size⟩, kc _ _ h.c1, ⟨u, kc _ _ hu⟩,
   (k.frozen (p := ⟨pb, 2, none⟩) hp (fun f => f)).trans h.f2, (k.frozen (p := ⟨pb, 3, none⟩) hp (fun f => f)).trans h.f3, fun z hz => (h.sets z hz).keep k (fun _ _ f => f), h.word.keep k (fun _ _ f => f), h.own, h.only.trans k⟩
theorem NewAt.setOther {w V : World} {pb g cap st : Nat} {Z : List (Stp × Value)} {ws : Slc} {W : Int → Bool} (h : NewAt w V pb g cap st Z ws W) (u : Value) : NewAt w (V.setCell ⟨pb, 3, none⟩ u) pb g cap st Z ws W := by
 have k : Only (fun k => k = pb) V (V.setCell ⟨pb, 3, none⟩ u) := (Only.refl (fun k => k = pb) V).setCell (p := ⟨pb, 3, none⟩) (.inl rfl) _
 obtain ⟨u3, hu⟩ := h.c3
 have hgp := h.own.2.2
 exact ⟨⟨(World.cell?_setCell_other _ _ _ _ (by simp)).trans h.at'.c0, (World.cell?_setCell_other _ _ _ _ (by simp)).trans h.at'.c2, h.at'.le, fun j u e => (k.cell (p := ⟨g, j, none⟩) h.at'.gl hgp).trans (h.at'.row j u e), Nat.lt_of_lt_of_le h.at'.gl k.size⟩, (World.cell?_setCell_other _ _ _ _ (by simp)).trans h.c1, ⟨u, World.cell?_setCell_same _ _ _ hu⟩,
   (frozen_setCell _ _ _ _).trans h.f2, (frozen_setCell _ _ _ _).trans h.f3, fun z hz => (h.sets z hz).keep k (fun _ h2 e => h2.2 e), h.word.keep k (fun _ h2 e => h2.2 e), h.own, h.only.setCell (p := ⟨pb, 3, none⟩) (.inr h.own.1) u⟩
theorem NewAt.setWord {w V : World} {pb g cap st : Nat} {Z : List (Stp × Value)} {ws ws' : Slc} {W W' : Int → Bool} (h : NewAt w V pb g cap st Z ws W) (hs : SetAt V (fun k => w.heap.size ≤ k ∧ k ≠ pb) (.agg #[slV ws']) W') : NewAt w (V.setCell ⟨pb, 2, none⟩ (slV ws')) pb g cap st Z ws' W' := by
 have k : Only (fun k => k = pb) V (V.setCell ⟨pb, 2, none⟩ (slV ws')) := (Only.refl (fun k => k = pb) V).setCell (p := ⟨pb, 2, none⟩) (.inl rfl) _
 obtain ⟨u3, hu⟩ := h.c3
 have hgp := h.own.2.2
 exact ⟨⟨(World.cell?_setCell_other _ _ _ _ (by simp)).trans h.at'.c0, World.cell?_setCell_same _ _ _ h.at'.c2, h.at'.le, fun j u e => (k.cell (p := ⟨g, j, none⟩) h.at'.gl hgp).trans (h.at'.row j u e), Nat.lt_of_lt_of_le h.at'.gl k.size⟩, (World.cell?_setCell_other _ _ _ _ (by simp)).trans h.c1, ⟨u3, (World.cell?_setCell_other _ _ _ _ (by simp)).trans hu⟩,
   (frozen_setCell _ _ _ _).trans h.f2, (frozen_setCell _ _ _ _).trans h.f3, fun z hz => (h.sets z hz).keep k (fun _ h2 e => h2.2 e), hs.keep k (fun _ h2 e => h2.2 e), h.own, h.only.setCell (p := ⟨pb, 2, none⟩) (.inr h.own.1) _⟩
theorem set_slc {w : World} {A : Nat → Prop} {x : Value} {S : Int → Bool} (h : SetAt w A (.agg #[x]) S) : ∃ p : Slc, x = slV p := by
 obtain ⟨sv, sp, h1, h2, _⟩ := h
 simp at h1
 subst h1
 rcases h2 with ⟨h2, _⟩ | ⟨g, cap, h2, _⟩
 · exact ⟨(none, 0, 0), h2⟩
 · exact ⟨(_, _, _), h2⟩
theorem slcs {w : World} {A : Nat → Prop} : ∀ (Z : List (Stp × Value)), (∀ z ∈ Z, SetAt w A (.agg #[z.2]) (Prg.setP z.1)) → ∃ zs : List Slc, Z.map Prod.snd = zs.map slV
 | [], _ => ⟨[], rfl⟩
 | z :: Z, h => by
   obtain ⟨zs, e⟩ := slcs Z (fun y hy => h y (List.mem_cons_of_mem _ hy))
   obtain ⟨p, hp⟩ := set_slc (h z List.mem_cons_self)
   exact ⟨p :: zs, by simp [e, hp]⟩
theorem NewAt.spans {w V : World} {pb g cap st : Nat} {Z : List (Stp × Value)} {ws : Slc} {W : Int → Bool} {zs : List Slc} (h : NewAt w V pb g cap st Z ws W) (hz : Z.map Prod.snd = zs.map slV) : ∀ p ∈ ws :: zs, ∃ l A, SpanRow V A (slV p) l ∧ Cs.Rising l := by
 have one : ∀ (p : Slc) (S : Int → Bool), SetAt V (fun k => w.heap.size ≤ k ∧ k ≠ pb) (.agg #[slV p]) S → ∃ l A, SpanRow V A (slV p) l ∧ Cs.Rising l := fun p S hs => by
   obtain ⟨sv, sp, h1, h2, h3, _⟩ := hs
   simp at h1
   subst h1
   exact ⟨sp, _, h2, h3⟩
 intro p hp
 rcases List.mem_cons.1 hp with rfl | hp
 · exact one _ _ h.word
 · have : slV p ∈ Z.map Prod.snd := by rw [hz]; exact List.mem_map_of_mem hp
   obtain ⟨z, hzm, hze⟩ := List.mem_map.1 this
   exact one p _ (hze ▸ h.sets z hzm)
theorem NewAt.prog {w V : World} {pb g cap st : Nat} {Z : List (Stp × Value)} {ws : Slc} {W : Int → Bool} (h : NewAt w V pb g cap st Z ws W) (hl : Z.length ≤ 300) (hf : ∀ (k : Nat) s, (sts Z)[k]? = some s → s.next < (sts Z).length ∧ s.other < (sts Z).length) (hst : st < (sts Z).length) : ProgAt V (fun k => w.heap.size ≤ k) pb (sts Z) st W := by
 refine ⟨h.own.1, ⟨g, cap, by rw [sts_len]; exact h.at'.c0, h.own.2.1, by rw [sts_len]; exact h.at'.le, fun k s hk => ?_⟩, h.c1, ⟨slV ws, h.at'.c2, h.word.mono (fun _ _ h => h.1)⟩, by rw [sts_len]; exact hl, hf, hst⟩
 unfold sts at hk
 rw [List.getElem?_map] at hk
 obtain ⟨z, hz, rfl⟩ := Option.map_eq_some_iff.1 hk
 obtain ⟨f0, f1, f2, f3, f4⟩ := stCells_five Z k z hz
 exact ⟨h.at'.row _ _ f0, ⟨z.2, h.at'.row _ _ f1, (h.sets z (List.mem_of_getElem? hz)).mono (fun _ _ h => h.1)⟩, h.at'.row _ _ f2, h.at'.row _ _ f3, h.at'.row _ _ f4⟩
end Go.Proofs.YtnagphodmfejiaaGreatDoor
namespace Go.Proofs.YtnagphodmfejiaaGreatDoor
open Go.RowKit Go.Shelf Go.Lib
open Sm (Stp Tree capT)
def slcOf : Value → Slc
 | .slice a n c => (a, n, c)
 | _ => (none, 0, 0)
def stlOf (z : Stp × Value) : Stl := (z.1.kind, slcOf z.2, z.1.asr, z.1.next, z.1.other)
def askS (s : Stp) : Bool := decide (s.kind = 2) && (decide (s.asr = 2) || decide (s.asr = 3))
theorem containsSt_any (Z : List (Stp × Value)) (g cap : Nat) (V : World) (hz : ∀ z ∈ Z, ∃ p : Slc, z.2 = slV p) (hrow : ∀ j u, (stCells Z)[j]? = some u → V.cell? ⟨g, j, none⟩ = some u) (hg : g < V.heap.size) (hl : Z.length ≤ 1000) :
   Calls Tryz.prog 62 #[.slice (some ⟨g, 0, none⟩) Z.length cap, .func (.func 63) #[] #[]] V fun e V' => e = .returned (.bool (Z.any (fun z => askS z.1))) ∧ Only (fun _ => False) V V' := by
 have hcell : ∀ j, j < (Z.map stlOf).length → ∀ i v, (encStl (Z.map stlOf)[j]!)[i]? = some v → V.cell? ⟨g, 0 + j * 5 + i, none⟩ = some v := by
   intro j hj i v hi
   have hjZ : j < Z.length := by simpa using hj
   have hget : Z[j]? = some Z[j] := List.getElem?_eq_getElem hjZ
   obtain ⟨p, hp⟩ := hz Z[j] (List.getElem_mem hjZ)
   obtain ⟨f0, f1, f2, f3, f4⟩ := stCells_five Z j _ hget
   have e : (Z.map stlOf)[j]! = stlOf Z[j] := by rw [getElem!_pos _ j hj]; simp
   rw [e] at hi
   have e2 : encStl (stlOf Z[j]) = [.int .i64 (Z[j].1.kind : Nat), Z[j].2, .int .i64 Z[j].1.asr, .int .i64 (Z[j].1.next : Nat), .int .i64 (Z[j].1.other : Nat)] := by
     unfold encStl stlOf; simp only []; rw [hp]; rfl
   rw [e2] at hi
   rw [Nat.zero_add]
   match i, hi with
   | 0, hi => simp at hi; subst hi; exact hrow _ _ f0
   | 1, hi => simp at hi; subst hi; exact hrow _ _ f1
   | 2, hi => simp at hi; subst hi; exact hrow _ _ f2
   | 3, hi => simp at hi; subst hi; exact hrow _ _ f3
   | 4, hi => simp at hi; subst hi; exact hrow _ _ f4
   | n + 5, hi => simp at hi
 have hpred : PredBelow Tryz.prog 63 #[] (fun x : Stl => .agg (encStl x).toArray) asksW V := fun W x hb => by
   have := asks_any x W
   refine Calls.mono (by simpa using this) ?_
   rintro e w' ⟨rfl, hO⟩
   exact ⟨rfl, hb.trans (hO.below.mono hb.size)⟩
 refine (AnyQ.slices_ContainsFunc laidContains 5 (fun w => by kernel_rfl) (fun w => by kernel_rfl) encStl (fun x => by simp [encStl]) asksW 63 #[] (enters_of Tryz.func63 (by kernel_rfl) rfl) g 0 Z.length cap (Z.map stlOf) V hpred (by simp) (by omega) hg hcell).mono ?_
 rintro e w' ⟨rfl, hb⟩
 refine ⟨?_, Only.ofBelow hb⟩
 rw [List.take_of_length_le (by simp), List.any_map]
 rfl
theorem newAt_start {w w3 : World} {st : Nat} {Z : List (Stp × Value)} {sv : Value} (hB : BldAt w3 w.heap.size Z) (h1 : w3.cell? ⟨w.heap.size, 0, none⟩ = some sv) (hne : 0 < Z.length) (hO : Only (fun _ => False) w w3) : ∃ g cap, sv = .slice (some ⟨g, 0, none⟩) Z.length cap ∧ NewAt w (w3.alloc (.cells #[sv, .int .i64 (st : Nat), .slice none 0 0, .slice none 0 0] 160)) w3.heap.size g cap st Z (none, 0, 0) (fun _ => false) := by
 obtain ⟨sv', h1', h2, h3⟩ := hB.ex
 obtain rfl : sv = sv' := Option.some.inj (h1.symm.trans h1')
 have hs := hO.size
 have k : Only (fun _ => False) w3 (w3.alloc (.cells #[sv, .int .i64 (st : Nat), .slice none 0 0, .slice none 0 0] 160)) := (Only.refl _ _).alloc _
 have hbl := fun g => ownsRow_block h2 g
 rcases h2.2 with ⟨rfl, hz⟩ | ⟨g, cap, cur, rfl, hbg, hg, hnc, hcm, hcs, htake⟩
 · omega
 · have hgl := (hbl g rfl).2
   refine ⟨g, cap, rfl, ⟨new_cell w3 _ rfl _ _ 0 _ rfl, new_cell w3 _ rfl _ _ 2 _ rfl, hnc, fun j u hj => ?_, by simp; omega⟩, new_cell w3 _ rfl _ _ 1 _ rfl, ⟨_, new_cell w3 _ rfl _ _ 3 _ rfl⟩, new_frozen w3 _ rfl _ _ 2, new_frozen w3 _ rfl _ _ 3, fun z hz => ?_, SetAt.none _ _ _ (fun _ => rfl), ⟨hs, by omega, by omega⟩, hO.trans k⟩
   · refine (k.cell (p := ⟨g, j, none⟩) hgl (fun f => f)).trans ?_
     have hj2 : j < Z.length * 5 := by have := (List.getElem?_eq_some_iff.1 hj).1; rwa [stCells_len] at this
     have e1 : (cur.toList.take (Z.length * 5))[j]? = (stCells Z)[j]? := by rw [htake]
     rw [List.getElem?_take_of_lt hj2, hj] at e1
     unfold World.cell?
     rw [hg]
     simpa using e1
   · exact ((h3 z hz).mono (B := fun k => w.heap.size ≤ k ∧ k ≠ w3.heap.size) (fun q hq h => ⟨by omega, by omega⟩)).keep k (fun _ _ f => f)
set_option maxHeartbeats 4000000 in
set_option maxRecDepth 1000000 in
theorem newP_any (F : Nat) (T : Tree) (v : Value) (w : World) (hp : PrtOK F w w.heap.size v T) (hif : ∃ T y, v = .iface T y) (hc : capT F T ≤ 299) :
   Calls Tryz.prog 34 #[v] w fun e w' => ∃ pb W, e = .returned (.pointer (some ⟨pb, 0, none⟩)) ∧ ProgAt w' (fun g => w.heap.size ≤ g) pb (Sm.prg F T).2 (Sm.prg F T).1 W ∧ (((Sm.prg F T).2.any askS) = true → W = Cs.shortP 119) ∧ Only (fun _ => False) w w' := by
 obtain ⟨iT, iy, rfl⟩ := hif
 have hlen : ((Sm.prg F T).2.length : Int) ≤ 300 := by
   have := Sm.bld_len hp.at'.wf (by omega) 0 [Sm.finish]
   simp at this
   unfold Sm.prg
   omega
 have HP := hide hp
 clear hp
 have HO1 : Hid (Only (fun _ => False) w (w.alloc (.cells #[.slice none 0 0] 148))) := (Only.refl _ _).alloc _
 have HB1 : Hid (BldAt (w.alloc (.cells #[.slice none 0 0] 148)) w.heap.size []) := ⟨⟨.slice none 0 0, new_cell w _ rfl _ _ 0 _ rfl, World.ownsRow_nil _ _ _ _, fun z hz => by cases hz⟩, new_frozen w _ rfl _ _ 0⟩
 go_enter Tryz.func34, Tryz.ntmps34
 go_upto_region 4 with (first | (go_at_call 60; refine (add_plain w.heap.size [] Sm.finish _ (unhide HB1) (by decide) (by decide)).mono ?_; rintro e w2 ⟨Z2, rfl, hZ2, hB2⟩; have HB2 := hide hB2; have HZ2 := hide hZ2; clear hB2 hZ2))
 have hs2 : sts Z2 = [Sm.finish] := by have := unhide HZ2; simpa [sts] using this
 have hO2 : Only (fun k => w.heap.size ≤ k) w w2 := ((unhide HO1).mono (fun _ _ f => f.elim)).trans (unhide HB2).only
 have HBu : Hid (Calls Tryz.prog 61 #[.pointer (some ⟨w.heap.size, 0, none⟩), .iface iT iy, .int .i64 0] w2 (Builds w2 w.heap.size (Sm.prg F T))) := by
   have hb := build_all w.heap.size F (.iface iT iy) T 0 Z2 w2 ((unhide HP).keep hO2) (unhide HB2).at' (by rw [← sts_len, hs2]; decide) (by rw [hs2]; unfold Sm.prg at hlen; omega)
   rw [hs2] at hb
   exact hb
 clear hs2
 refine (unhide HBu).mono ?_
 rintro e w3 ⟨Z, rfl, hZ, hB3⟩
 obtain ⟨sv, d1, _⟩ := hB3.at'.ex
 have hO3 : Only (fun _ => False) w w3 := by
   have := hO2.trans hB3.only
   exact ⟨this.os, this.tape, this.output, this.size, fun j hj _ => this.block j hj (by omega)⟩
 have hZl : Z.length = (Sm.prg F T).2.length := by rw [← hZ, sts_len]
 have hpos : 0 < Z.length := by
   have := Sm.bld_adds F T 0 [Sm.finish]
   simp at this
   unfold Sm.prg at hZl
   omega
 obtain ⟨g, cap, rfl, hN⟩ := newAt_start (st := (Sm.prg F T).1) hB3.at' d1 hpos hO3
 have HN := hide hN
 have HZ := hide hZ
 have HZl := hide hZl
 clear hZ hZl hN hB3 hO3 hO2
 have hZ300 : Z.length ≤ 300 := by have := unhide HZl; omega
 have HFit : Hid (∀ (k : Nat) s, (Sm.prg F T).2[k]? = some s → s.next < (Sm.prg F T).2.length ∧ s.other < (Sm.prg F T).2.length) := by
   intro k s hk
   exact Sm.bld_fits F T 0 [Sm.finish] (by simp) (fun s hs => by obtain rfl := List.mem_singleton.1 hs; decide) s (List.mem_of_getElem? hk)
 have HStl : Hid ((Sm.prg F T).1 < (Sm.prg F T).2.length) := Sm.bld_starts F T 0 [Sm.finish] (by simp)
 go_upto_region 5 with fail
 generalize w3.alloc (.cells #[.slice (some ⟨g, 0, none⟩) Z.length cap, .int .i64 ((Sm.prg F T).1 : Nat), .slice none 0 0, .slice none 0 0] 160) = w4 at *
 generalize w3.heap.size = pb at *
 have hc0 := (unhide HN).at'.c0
 obtain ⟨zs, hzs⟩ := slcs Z (unhide HN).sets
 have Hzs := hide hzs
 clear hzs
 have HCo := hide (containsSt_any Z g cap w4 (fun z hz => set_slc ((unhide HN).sets z hz)) (unhide HN).at'.row (unhide HN).at'.gl (by omega))
 have hany : Z.any (fun z => askS z.1) = (Sm.prg F T).2.any askS := by rw [← unhide HZ]; unfold sts; rw [List.any_map]; rfl
 rw [hany] at HCo
 clear hany hpos d1
 cases hcb : (Sm.prg F T).2.any askS
 · rw [hcb] at HCo
   have Hcb := hide hcb
   clear hcb
   go_upto_region 7 with (go_at_call 62; refine (unhide HCo).mono ?_; rintro e w5 ⟨rfl, hO5⟩; have HN6 := hide ((unhide HN).keep hO5); clear hO5)
   go_wp2_with (first | (go_at_call 66; refine (sets_any pb _).mono ?_; rintro e w8 ⟨v, rfl, kb, rfl, hkb1, hkb2, hO8⟩; have HN8 := hide ((unhide HN6).keep hO8); have HK8 := hide hkb2; have hkl := World.block_lt_of_cell? w8 _ hkb2; clear hO8 hkb2) | (go_at_call 65; refine (cutsOf_any 121 #[.pointer (some ⟨kb, 0, none⟩)] (((none, 0, 0) : Slc) :: zs) (fun k => k = kb ∨ k = pb ∨ k = g) _ (enters_of Tryz.func121 (by kernel_rfl) rfl) (sets_seq pb g cap kb Z ((none, 0, 0) : Slc) zs _ (unhide HN8).at' (unhide HK8) (unhide Hzs) (by omega) 8 (by omega)) (fun k hk => by rcases hk with rfl | rfl | rfl; exact hkl; exact (unhide HN8).pl; exact (unhide HN8).at'.gl) (by have h9 := congrArg List.length (unhide Hzs); simp at h9; simp; omega) ((unhide HN8).spans (unhide Hzs))).mono ?_; rintro e w9 ⟨⟨ra, rk, rc, rfl⟩, hO9⟩; have hN9 := (unhide HN8).keep hO9; (obtain ⟨u9, d3⟩ := hN9.c3); have f3 := hN9.f3; have HN9 := hide hN9; clear hO9 hN9))
   go_ret
   have hE := (unhide HN9).setOther (.slice ra rk rc)
   refine ⟨pb, (fun _ => false), rfl, ?_, ?_, hE.only⟩
   · have hPr := hE.prog (by omega) ?_ ?_
     · rw [unhide HZ] at hPr; exact hPr
     · rw [unhide HZ]; exact unhide HFit
     · rw [unhide HZ]; exact unhide HStl
   · intro h; rw [unhide Hcb] at h; cases h
 · rw [hcb] at HCo
   clear hcb
   go_upto_region 7 with (first | (go_at_call 62; refine (unhide HCo).mono ?_; rintro e w5 ⟨rfl, hO5⟩; have HN5 := hide ((unhide HN).keep hO5); clear hO5) | (go_at_call 64; refine (setWord_any _).mono ?_; rintro e w6 ⟨v, rfl, hS6, hO6⟩; (obtain ⟨sv6, sp6, rfl, _⟩ := id hS6); (obtain ⟨⟨pa6, pn6, pc6⟩, rfl⟩ := set_slc hS6); unfold slV at hS6 ⊢; simp only [] at hS6 ⊢; have hN6 := (unhide HN5).keep hO6; have d2 := hN6.at'.c2; have f2 := hN6.f2; have HW := hide (hN6.setWord (ws' := (pa6, pn6, pc6)) (W' := Cs.shortP 119) (hS6.mono (fun q _ hq => ⟨by have := (unhide HN5).only.size; omega, by have := (unhide HN5).pl; omega⟩))); clear hN6 hS6 hO6))
   have HN6 := HW
   go_wp2_with (first | (go_at_call 66; refine (sets_any pb _).mono ?_; rintro e w8 ⟨v, rfl, kb, rfl, hkb1, hkb2, hO8⟩; have HN8 := hide ((unhide HN6).keep hO8); have HK8 := hide hkb2; have hkl := World.block_lt_of_cell? w8 _ hkb2; clear hO8 hkb2) | (go_at_call 65; refine (cutsOf_any 121 #[.pointer (some ⟨kb, 0, none⟩)] (((pa6, pn6, pc6) : Slc) :: zs) (fun k => k = kb ∨ k = pb ∨ k = g) _ (enters_of Tryz.func121 (by kernel_rfl) rfl) (sets_seq pb g cap kb Z ((pa6, pn6, pc6) : Slc) zs _ (unhide HN8).at' (unhide HK8) (unhide Hzs) (by omega) 8 (by omega)) (fun k hk => by rcases hk with rfl | rfl | rfl; exact hkl; exact (unhide HN8).pl; exact (unhide HN8).at'.gl) (by have h9 := congrArg List.length (unhide Hzs); simp at h9; simp; omega) ((unhide HN8).spans (unhide Hzs))).mono ?_; rintro e w9 ⟨⟨ra, rk, rc, rfl⟩, hO9⟩; have hN9 := (unhide HN8).keep hO9; (obtain ⟨u9, d3⟩ := hN9.c3); have f3 := hN9.f3; have HN9 := hide hN9; clear hO9 hN9))
   go_ret
   have hE := (unhide HN9).setOther (.slice ra rk rc)
   refine ⟨pb, Cs.shortP 119, rfl, ?_, ?_, hE.only⟩
   · have hPr := hE.prog (by omega) ?_ ?_
     · rw [unhide HZ] at hPr; exact hPr
     · rw [unhide HZ]; exact unhide HFit
     · rw [unhide HZ]; exact unhide HStl
   · intro _; rfl
end Go.Proofs.YtnagphodmfejiaaGreatDoor
