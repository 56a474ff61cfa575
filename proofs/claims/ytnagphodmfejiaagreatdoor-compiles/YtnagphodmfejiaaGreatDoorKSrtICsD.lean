/- The library's sort of a row of characters: the whole. (Written by a program.) The program's sets: looking a character up (from commit d632176 on). The program's sets: the iterator over spans. The program's sets: the iterators over a set's spans, and over the gaps between them. The program's sets: spans one behind the other, joined. -/
import Derived.Test.YtnagphodmfejiaaGreatDoorKSrtGSrtH
import Derived.Deep.Cut
import Derived.Deep.CutRange
import Derived.Deep.CutBlock
import Derived.Test.YtnagphodmfejiaaGreatDoorKSetBEqK
import Derived.Test.YtnagphodmfejiaaGreatDoorKRefFRefJ
import Derived.Shelf.Abstract
import Derived.Test.YtnagphodmfejiaaGreatDoorKRanBChD
import Derived.RangeFuncBound
import Derived.RangeFuncLeaves
import Derived.OwnWalkIn
import Derived.TacticsInMore
import Derived.LoopNIn
import Derived.LoopIn
import Derived.Test.YtnagphodmfejiaaGreatDoorKParATrA
namespace Go.Proofs.YtnagphodmfejiaaGreatDoor
open Go.RowKit
theorem Sorts.same {a b : World} {blk off n : Nat} (h : RowI a blk off n) (k : Only (fun _ => False) a b) : Sorts a blk off n b := ⟨k.mono (fun _ _ f => f.elim), h.keep k (fun f => f)⟩
set_option maxHeartbeats 16000000 in
set_option maxRecDepth 1000000 in
theorem pdqR (blk off n cap : Nat) (hn : n < 1099511627776) : ∀ (N a b : Nat) (lim : Int) (w : World), b - a < N → RowI w blk off n → blk < w.heap.size → a ≤ b → b ≤ n → 0 ≤ lim → lim < 1000 →
   Calls Tryz.prog 160 #[.slice (some ⟨blk, off, none⟩) n cap, .int .i64 a, .int .i64 b, .int .i64 lim] w fun e w' => e = .returned (.tuple #[]) ∧ Sorts w blk off n w' := by
 intro N
 induction N with
 | zero => intro _ _ _ _ h; exact absurd h (Nat.not_lt_zero _)
 | succ N ih =>
   intro a0 b0 lim0 w hN h hblk hab0 hb0 hl0 hl1
   have IH := hide ih
   clear ih
   have HH := hide h
   clear h
   go_enter Tryz.func160, Tryz.ntmps160
   go_wp2_with fail
   go_loopw [1, 2, 3, 8, 9] (fun va vb vl v8 v9 wr => ∃ (a b : Nat) (lim : Int) (wb wp : Bool), va = .int .i64 a ∧ vb = .int .i64 b ∧ vl = .int .i64 lim ∧ v8 = .bool wb ∧ v9 = .bool wp ∧ a0 ≤ a ∧ a ≤ b ∧ b ≤ b0 ∧ 0 ≤ lim ∧ lim < 1000 ∧ Hid (Sorts w blk off n wr)) (fun va vb _ _ _ _ => (intOf vb - intOf va).toNat)
   case atStart => exact ⟨a0, b0, lim0, true, true, rfl, rfl, rfl, rfl, rfl, Nat.le_refl _, hab0, Nat.le_refl _, hl0, hl1, Sorts.refl (unhide HH)⟩
   case round =>
     obtain ⟨a, b, lim, wb, wp, rfl, rfl, rfl, rfl, rfl, ha0, hab, hbb, hm0, hm1, HS⟩ := hrel
     have hb : b ≤ n := by omega
     by_cases h12 : (b : Int) - a ≤ 12
     · go_wp2_with (go_at_call 195; refine (insertR blk off n cap a b _ (unhide HS).2 hab hb hn).mono ?_; rintro e w1 ⟨rfl, hS1⟩; have HS := hide ((unhide HS).trans hS1); clear hS1)
       (try simp only [Exit.inBlock, Exit.then]); refine bodyPost_ret (results_none rfl _ _ _) rfl ?_
       exact ⟨rfl, unhide HS⟩
     · have h12d : decide ((b : Int) - a ≤ 12) = false := by simp; omega
       by_cases hl : lim = 0
       · subst hl
         go_wp2_with (go_at_call 196; refine (heapR blk off n cap a b _ (unhide HS).2 (by omega) hb hn).mono ?_; rintro e w1 ⟨rfl, hS1⟩; have HS := hide ((unhide HS).trans hS1); clear hS1)
         (try simp only [Exit.inBlock, Exit.then]); refine bodyPost_ret (results_none rfl _ _ _) rfl ?_
         exact ⟨rfl, unhide HS⟩
       · have hl2 : ((lim : Int) == 0) = false := by simp; omega
         go_upto_if 35 with fail
         go_cut [3] from 19 to 133 (fun s3 wx => ∃ l2 : Int, s3 = .int .i64 l2 ∧ 0 ≤ l2 ∧ l2 < 1000 ∧ Hid (Sorts w blk off n wx))
         case first =>
           cases wb
           · go_wp2_with (go_at_call 197; refine (breakR blk off n cap a b _ (unhide HS).2 (by have := (unhide HS).1.size; omega) (by omega) hb hn).mono ?_; rintro e w1 ⟨rfl, hS1⟩; have HS := hide ((unhide HS).trans hS1); clear hS1)
             go_meet
             exact ⟨lim - 1, rfl, by omega, by omega, unhide HS⟩
           · go_wp2_with fail
             go_meet
             exact ⟨lim, rfl, by omega, by omega, unhide HS⟩
         case rest =>
           clear HS
           obtain ⟨l2, rfl, hl20, hl21, HS⟩ := hcut
           clear hl hl2
           go_upto_if 50 with (go_at_call 198; refine (pivotR blk off n cap a b _ (unhide HS).2 (by have := (unhide HS).1.size; omega) (by omega) hb hn).mono ?_; rintro e w2 ⟨p, hint, rfl, hpa, hpb, hh0, hh2, hO1⟩; have HS := hide ((unhide HS).trans (Sorts.same (unhide HS).2 hO1)); clear hO1)
           go_cut [11, 12] from 19 to 133 (fun s11 s12 wx => ∃ (p2 : Nat) (h2 : Int), s11 = .int .i64 p2 ∧ s12 = .int .i64 h2 ∧ a ≤ p2 ∧ p2 < b ∧ Hid (Sorts w blk off n wx))
           case first =>
             by_cases hh : hint = 2
             · subst hh
               go_wp2_with (go_at_call 199; refine (reverseR blk off n cap a b _ (unhide HS).2 (by omega) hb hn).mono ?_; rintro e w3 ⟨rfl, hS1⟩; have HS := hide ((unhide HS).trans hS1); clear hS1; obtain ⟨p, hpe⟩ : ∃ p2 : Nat, (b : Int) - 1 - ((p : Int) - a) = p2 := ⟨b - 1 - (p - a), by omega⟩; have hpa : a ≤ p := (by omega); have hpb : p < b := (by omega))
               go_meet
               exact ⟨p, 1, rfl, rfl, hpa, hpb, unhide HS⟩
             · have hhd : (hint == 2) = false := by simp; omega
               go_wp2_with fail
               go_meet
               exact ⟨p, hint, rfl, rfl, hpa, hpb, unhide HS⟩
           case rest =>
             clear HS hpa hpb hh0 hh2
             obtain ⟨p, hint2, rfl, rfl, hpa, hpb, HS⟩ := hcut
             go_upto_region 15 with fail
             go_cut [68] from 19 to 133 (fun s68 wx => ∃ c : Bool, s68 = .bool c ∧ Hid (Sorts w blk off n wx))
             case first =>
               cases wb <;> cases wp
               all_goals
                 go_wp2_with fail
                 go_meet
                 exact ⟨_, rfl, unhide HS⟩
             case rest =>
               clear HS
               obtain ⟨c, rfl, HS⟩ := hcut
               go_upto_if 68 with fail
               go_cut [72] from 19 to 133 (fun s72 wx => Hid (Sorts w blk off n wx))
               case first =>
                 cases c
                 · go_wp2_with fail
                   go_meet
                   exact unhide HS
                 · go_wp2_with (go_at_call 200; refine (partialR blk off n cap a b _ (unhide HS).2 (by omega) hb hn).mono ?_; rintro e w4 ⟨⟨r, rfl⟩, hS1⟩; have HS := hide ((unhide HS).trans hS1); clear hS1)
                   · (try simp only [Exit.inBlock, Exit.then]); refine bodyPost_ret (results_none rfl _ _ _) rfl ?_
                     exact ⟨rfl, unhide HS⟩
                   · go_meet
                     exact unhide HS
               case rest =>
                 clear HS
                 have HS := hcut
                 go_upto_region 17 with fail
                 go_cut [87] from 19 to 133 (fun s87 wx => ∃ c2 : Bool, s87 = .bool c2 ∧ Hid (Sorts w blk off n wx))
                 case first =>
                   obtain ⟨G, hcw, hfw⟩ := (unhide HS).2
                   rcases Nat.eq_zero_or_pos a with ha | ha
                   · have hgz : decide ((0 : Int) < (a : Int)) = false := by simp; omega
                     go_wp2_with fail
                     go_big_quiet (first | (go_at_call 201; refine Calls.quiet_of_same (less_any _ _ _)))
                     go_wp2_with fail
                     go_meet
                     exact ⟨_, rfl, (unhide HS).drewN _⟩
                   · have hgz : (0 : Int) < (a : Int) := by omega
                     go_wp2_with fail
                     go_big_quiet (first | (go_at_call 201; refine Calls.quiet_of_same (less_any _ _ _)))
                     go_wp2_with fail
                     go_meet
                     exact ⟨_, rfl, (unhide HS).drewN _⟩
                 case rest =>
                   clear HS
                   obtain ⟨c2, rfl, HS⟩ := hcut
                   cases c2
                   · go_wp2_with (go_at_call 203; refine (partR blk off n cap a b p _ (unhide HS).2 hpa hpb hb hn).mono ?_; rintro e w5 ⟨m, r, rfl, hm1, hm2, hS1⟩; have HS := hide ((unhide HS).trans hS1); clear hS1)
                     · have hsz9 := (unhide HS).1.size
                       refine (unhide IH a m l2 _ (by omega) (unhide HS).2 (by omega) (by omega) (by omega) hl20 hl21).mono ?_
                       rintro e w6 ⟨rfl, hS1⟩
                       have HS := hide ((unhide HS).trans hS1)
                       clear hS1
                       go_wp2_with fail
                       go_roundw
                       case rel => exact ⟨m + 1, b, l2, _, _, by go_num, rfl, rfl, rfl, rfl, by omega, by omega, by omega, by omega, by omega, unhide HS⟩
                       case measure => simp [intOf]; omega
                     · have hsz9 := (unhide HS).1.size
                       have hi := unhide IH (m + 1) b l2
                       rw [show ((m + 1 : Nat) : Int) = (m : Int) + 1 by omega] at hi
                       refine (hi _ (by omega) (unhide HS).2 (by omega) (by omega) (by omega) hl20 hl21).mono ?_
                       rintro e w6 ⟨rfl, hS1⟩
                       have HS := hide ((unhide HS).trans hS1)
                       clear hS1 hi
                       go_wp2_with fail
                       go_roundw
                       case rel => exact ⟨a, m, l2, _, _, rfl, rfl, rfl, rfl, rfl, by omega, by omega, by omega, by omega, by omega, unhide HS⟩
                       case measure => simp [intOf]; omega
                   · go_wp2_with (go_at_call 202; refine (partEqR blk off n cap a b p _ (unhide HS).2 hpa hpb hb hn).mono ?_; rintro e w5 ⟨m, rfl, hm1, hm2, hS1⟩; have HS := hide ((unhide HS).trans hS1); clear hS1)
                     go_roundw
                     case rel => exact ⟨m, b, _, _, _, rfl, rfl, rfl, rfl, rfl, by omega, by omega, by omega, by omega, by omega, unhide HS⟩
                     case measure => simp [intOf]; omega
theorem sortR (blk n cap : Nat) (w : World) (h : RowI w blk 0 n) (hblk : blk < w.heap.size) (hn : n < 1099511627776) :
   Calls Tryz.prog 119 #[.slice (some ⟨blk, 0, none⟩) n cap] w fun e w' => e = .returned (.tuple #[]) ∧ Sorts w blk 0 n w' := by
 have hlim : Lib.bitLen n ≤ 62 := Lib.bitLen_le n 62 (by omega) (by omega)
 have HP := hide (pdqR blk 0 n cap hn (n + 1) 0 n (Lib.bitLen n : Nat) w (by omega) h hblk (by omega) (by omega) (by omega) (by omega))
 have HL := hide (bitsLenR n (by omega))
 have wr : IntKind.u64.wrap (n : Int) = n := by simp [IntKind.wrap, IntKind.bits, IntKind.signed]; omega
 clear h
 go_enter Tryz.func119, Tryz.ntmps119
 go_wp2_with (first | (go_at_call 161; refine (unhide HL _).mono ?_; rintro e w' ⟨rfl, rfl⟩) | (go_at_call 160; refine (unhide HP).mono ?_; rintro e w1 ⟨rfl, hS⟩; have HS := hide hS; clear hS))
 go_end0
 exact ⟨rfl, unhide HS⟩
namespace Cs
theorem Rising.ge {sp : List (Int × Int)} (h : Rising sp) : ∀ (i : Nat) (x : Int × Int), sp[i]? = some x → (i : Int) ≤ x.1
 | 0, x, hx => (h.at hx).2.1
 | i + 1, x, hx => by
   have hl : i + 1 < sp.length := (List.getElem?_eq_some_iff.1 hx).1
   have hi : sp[i]? = some sp[i] := List.getElem?_eq_getElem (by omega)
   have h1 := Rising.ge h i _ hi
   have h2 := h.lt hi hx (by omega)
   have h3 := h.at hi
   unfold okS at h3
   omega
theorem Rising.len {sp : List (Int × Int)} (h : Rising sp) : sp.length ≤ 1114112 := by
 by_cases e : sp.length = 0
 · omega
 · have hx : sp[sp.length - 1]? = some (sp[sp.length - 1]'(by omega)) := List.getElem?_eq_getElem (by omega)
   have h1 := h.ge _ _ hx
   have h2 := h.at hx
   unfold okS at h2
   omega
end Cs
def SpanRow (w : World) (A : Nat → Prop) (sv : Value) (l : List (Int × Int)) : Prop :=
 (sv = .slice none 0 0 ∧ l = []) ∨ ∃ g cap, sv = .slice (some ⟨g, 0, none⟩) l.length cap ∧ A g ∧ l.length ≤ cap ∧ g < w.heap.size ∧ ∀ (j : Nat) p, l[j]? = some p → w.cell? ⟨g, j * 2, none⟩ = some (.int .i32 p.1) ∧ w.cell? ⟨g, j * 2 + 1, none⟩ = some (.int .i32 p.2)
theorem SpanRow.keep {P A : Nat → Prop} {w w' : World} {sv : Value} {l : List (Int × Int)} (h : SpanRow w A sv l) (k : Only P w w') (hn : ∀ g, A g → ¬ P g) : SpanRow w' A sv l := by
 rcases h with h | ⟨g, cap, h1, h0, h2, h3, h4⟩
 · exact .inl h
 · exact .inr ⟨g, cap, h1, h0, h2, Nat.lt_of_lt_of_le h3 k.size, fun j p hj => ⟨cell_kept k _ _ (h4 j p hj).1 (hn g h0), cell_kept k _ _ (h4 j p hj).2 (hn g h0)⟩⟩
theorem SpanRow.mono {A B : Nat → Prop} {w : World} {sv : Value} {l : List (Int × Int)} (h : SpanRow w A sv l) (hAB : ∀ g, g < w.heap.size → A g → B g) : SpanRow w B sv l := by
 rcases h with h | ⟨g, cap, h1, h0, h2, h3, h4⟩
 · exact .inl h
 · exact .inr ⟨g, cap, h1, hAB g h3 h0, h2, h3, h4⟩
def SetAt (w : World) (A : Nat → Prop) (v : Value) (P : Int → Bool) : Prop := ∃ sv sp, v = .agg #[sv] ∧ SpanRow w A sv sp ∧ Cs.Rising sp ∧ ∀ c, Eqv.inSp sp c = P c
theorem SetAt.keep {P A : Nat → Prop} {w w' : World} {v : Value} {S : Int → Bool} (h : SetAt w A v S) (k : Only P w w') (hn : ∀ g, A g → ¬ P g) : SetAt w' A v S := by
 obtain ⟨sv, sp, h1, h2, h3⟩ := h
 exact ⟨sv, sp, h1, h2.keep k hn, h3⟩
theorem SetAt.mono {A B : Nat → Prop} {w : World} {v : Value} {S : Int → Bool} (h : SetAt w A v S) (hAB : ∀ g, g < w.heap.size → A g → B g) : SetAt w B v S := by
 obtain ⟨sv, sp, h1, h2, h3⟩ := h
 exact ⟨sv, sp, h1, h2.mono hAB, h3⟩
end Go.Proofs.YtnagphodmfejiaaGreatDoor
namespace Go.Proofs.YtnagphodmfejiaaGreatDoor
open Go.RowKit Go.Shelf
attribute [local go_sem] Oper.semAt_some
def KeptD (D : Nat → Prop) (w0 wr : World) (O : Nat → Prop) : Prop := w0.heap.size ≤ wr.heap.size ∧ ∀ k, D k → k < w0.heap.size ∧ ¬ O k ∧ wr.heap[k]? = w0.heap[k]?
theorem KeptD.cell {D O : Nat → Prop} {w0 wr : World} (h : KeptD D w0 wr O) {p : Addr} (hp : D p.block) : wr.cell? p = w0.cell? p := World.cell?_of_block (w := w0) (h.2 _ hp).2.2
theorem KeptD.yield {D O O' : Nat → Prop} {w0 A A' : World} (h : KeptD D w0 A O) (hs : ∀ k, O' k → O k ∨ A.heap.size ≤ k) (hO : Only O A A') : KeptD D w0 A' O' :=
 ⟨Nat.le_trans h.1 hO.size, fun k hk => by
   obtain ⟨h1, h2, h3⟩ := h.2 k hk
   have := h.1
   exact ⟨h1, fun ho => by
     rcases hs k ho with h | h
     · exact h2 h
     · omega, (hO.block k (by omega) h2).trans h3⟩⟩
theorem KeptD.young {D O : Nat → Prop} {w0 W A A' : World} (h : KeptD D w0 A O) (hW : w0.heap.size ≤ W.heap.size) (hO : Only (fun k => W.heap.size ≤ k ∧ ¬ O k) A A') : KeptD D w0 A' O :=
 ⟨Nat.le_trans h.1 hO.size, fun k hk => by
   obtain ⟨h1, h2, h3⟩ := h.2 k hk
   have := h.1
   exact ⟨h1, h2, (hO.block k (by omega) (fun hh => by omega)).trans h3⟩⟩
theorem KeptD.start {D O : Nat → Prop} {w0 W : World} (hlt : ∀ k, D k → k < w0.heap.size) (h : Only (fun _ => False) w0 W) (hD : ∀ k, D k → ¬ O k) : KeptD D w0 W O :=
 ⟨h.size, fun k hk => ⟨hlt k hk, hD k hk, h.block k (hlt k hk) (fun f => f)⟩⟩
theorem take_pre {α : Type} (l : List α) (i : Nat) (hi : i < l.length) : (l.take i ++ [l[i]]) <+: l := by
 have : l.take i ++ [l[i]] = l.take (i + 1) := by simp
 rw [this]; exact List.take_prefix _ _
theorem take_one {α : Type} (l : List α) (i : Nat) (hi : i < l.length) : l.take i ++ [l[i]] = l.take (i + 1) := by simp
def encSp (x : Int × Int) : Array Value := #[.int .i32 x.1, .int .i32 x.2]
set_option maxHeartbeats 4000000 in
set_option maxRecDepth 1000000 in
theorem eachSp_seq (sv : Value) (l : List (Int × Int)) (A : Nat → Prop) (kb : Nat) (w0 : World) (h : SpanRow w0 A sv l) (hkb : w0.cell? ⟨kb, 0, none⟩ = some sv) (hl : l.length ≤ 2000000) (n : Nat) (hn1 : 1 ≤ n) :
   SeqO Fence.wide n Tryz.prog 194 #[.pointer (some ⟨kb, 0, none⟩)] encSp l (fun k => k = kb ∨ (A k ∧ k < w0.heap.size)) w0 := by
 intro lp J O0 W hO hD hO0 hJ hY h0
 have hk0 := World.block_lt_of_cell? w0 _ hkb
 have HK : Hid (KeptD (fun k => k = kb ∨ (A k ∧ k < w0.heap.size)) w0 W O0) := KeptD.start (fun k hk => by rcases hk with rfl | hk; exact hk0; exact hk.2) hO hD
 have hk := ((unhide HK).cell (p := ⟨kb, 0, none⟩) (.inl rfl)).trans hkb
 obtain ⟨pa, pn, pc, rfl⟩ : ∃ pa pn pc, sv = .slice pa pn pc := by rcases h with ⟨h1, _⟩ | ⟨g, cap, h1, _⟩ <;> exact ⟨_, _, _, h1⟩
 have hpn : pn = l.length := by rcases h with ⟨h1, h2⟩ | ⟨g, cap, h1, _⟩ <;> simp at h1 <;> simp [*]
 subst hpn
 have HC : Hid (l.length ≠ 0 → ∃ g, pa = some ⟨g, 0, none⟩ ∧ l.length ≤ pc ∧ (A g ∧ g < w0.heap.size) ∧ ∀ (j : Nat) p, l[j]? = some p → w0.cell? ⟨g, j * 2, none⟩ = some (.int .i32 p.1) ∧ w0.cell? ⟨g, j * 2 + 1, none⟩ = some (.int .i32 p.2)) := by
   intro hne
   rcases h with ⟨_, h2⟩ | ⟨g, cap, h1, hA, h2, h3, h4⟩
   · rw [h2] at hne; exact absurd rfl hne
   · simp at h1
     exact ⟨g, h1.1, by omega, ⟨hA, h3⟩, h4⟩
 have HJ := hide hJ
 have HY := hide hY
 have H0 := hide h0
 have hsW := hO.size
 clear h hJ hY h0 hD hO0
 refine callsIn_of_wp Tryz.func194 rfl trivial ?_ rfl
 simp only [Tryz.ntmps194, List.size_toArray, List.length_cons, List.length_nil, Nat.reduceAdd, Nat.reduceSub, Array.replicate_succ, Array.replicate_zero, List.push_toArray, List.append_toArray, List.nil_append, List.cons_append]
 gi_wp2
 gi_loopw [7] (fun vi wr => ∃ (i : Nat) (O : Nat → Prop), vi = .int .i64 i ∧ i ≤ l.length ∧ Hid (J (l.take i) O wr) ∧ Hid (KeptD (fun k => k = kb ∨ (A k ∧ k < w0.heap.size)) w0 wr O)) (fun vi _ => l.length - (intOf vi).toNat)
 case atStart => exact ⟨0, O0, rfl, by omega, H0, HK⟩
 case round =>
   clear HK
   obtain ⟨i, O, rfl, hi, HJ1, HK⟩ := hrel
   by_cases hlt : i < l.length
   · obtain ⟨g, rfl, hpc, hAg, hcells⟩ := unhide HC (by omega)
     have hget : l[i]? = some l[i] := List.getElem?_eq_getElem hlt
     obtain ⟨d1, d2⟩ := hcells _ _ hget
     have c1 := ((unhide HK).cell (p := ⟨g, i * 2, none⟩) (.inr hAg)).trans d1
     have c2 := ((unhide HK).cell (p := ⟨g, i * 2 + 1, none⟩) (.inr hAg)).trans d2
     clear d1 d2 hcells
     have HP : Hid ((l.take i ++ [l[i]]) <+: l) := take_pre l i hlt
     have HT : Hid (l.take i ++ [l[i]] = l.take (i + 1)) := take_one l i hlt
     clear hget
     generalize l[i] = y at *
     have hJ2 := unhide HJ (l.take i) O wr (wr.alloc (.cells #[.int .i32 y.1, .int .i32 y.2] 263)) (unhide HJ1) ((Only.refl _ wr).alloc _)
     have HK2 := hide ((unhide HK).young (W := W) hsW (A' := wr.alloc (.cells #[.int .i32 y.1, .int .i32 y.2] 263)) ((Only.refl _ wr).alloc _))
     obtain ⟨fn, tmps, assign, body, hy, hR⟩ := unhide HY (l.take i) O y _ hJ2 (unhide HP)
     simp only [encSp] at hy
     clear hJ2
     gi_wp2
     refine hR.mono ?_
     rintro e W3 ⟨rfl, O', hJ3, hs3, hO3, hlt3⟩
     have HK3 := hide ((unhide HK2).yield hs3 hO3)
     gi_wp2
     exact ⟨⟨i + 1, O', by go_num, by omega, (by rw [← unhide HT]; exact hJ3), unhide HK3⟩, by simp [intOf]; omega⟩
   · obtain rfl : i = l.length := by omega
     gi_wp2
     go_end0
     exact ⟨⟨_, rfl⟩, O, by have := unhide HJ1; rwa [List.take_length] at this⟩
attribute [local go_sem] Oper.semAt_some
theorem YieldAt.anyN {m m' : Nat} {P : Program} {l : Nat} {args : Array Value} {W : World} {R : Ending → World → Prop} (h : YieldAt Fence.wide m P l args W R) : YieldAt Fence.wide m' P l args W R :=
 let ⟨fn, tmps, assign, body, hy, hr⟩ := h
 ⟨fn, tmps, assign, body, hy, hr.1, fun c cs _ => hr.2 c cs (room_wide _)⟩
def EachAt (w w' : World) (sv v : Value) : Prop := ∃ kb, v = .func (.func 194) #[] #[.pointer (some ⟨kb, 0, none⟩)] ∧ w.heap.size ≤ kb ∧ w'.cell? ⟨kb, 0, none⟩ = some sv ∧ Only (fun _ => False) w w'
theorem eachC_any (sv : Value) (w : World) (hs : ∃ pa pn pc, sv = .slice pa pn pc) : Calls Tryz.prog 159 #[sv] w fun e w' => ∃ v, e = .returned v ∧ EachAt w w' sv v := by
 obtain ⟨pa, pn, pc, rfl⟩ := hs
 have HO : Hid (EachAt w (w.alloc (.cells #[.slice pa pn pc] 151)) (.slice pa pn pc) (.func (.func 194) #[] #[.pointer (some ⟨w.heap.size, 0, none⟩)])) := ⟨_, rfl, Nat.le_refl _, new_cell w _ rfl _ _ 0 _ rfl, (Only.refl _ _).alloc _⟩
 go_enter Tryz.func159, Tryz.ntmps159
 go_wp2_with fail
 go_ret
 exact ⟨_, rfl, unhide HO⟩
theorem ranges_any (sv : Value) (w : World) (hs : ∃ pa pn pc, sv = .slice pa pn pc) : Calls Tryz.prog 118 #[.agg #[sv]] w fun e w' => ∃ v, e = .returned v ∧ EachAt w w' sv v := by
 obtain ⟨pa, pn, pc, rfl⟩ := hs
 have HO : Hid (Only (fun _ => False) w (w.alloc (.cells #[.slice pa pn pc] 153))) := (Only.refl _ _).alloc _
 have hsz : (w.alloc (.cells #[.slice pa pn pc] 153)).heap.size = w.heap.size + 1 := by simp
 go_enter Tryz.func118, Tryz.ntmps118
 go_wp2_with (go_at_call 159; refine (eachC_any _ _ ⟨_, _, _, rfl⟩).mono ?_; rintro e w1 ⟨v, rfl, kb, rfl, h1, h2, h3⟩; have H1 : Hid (EachAt w w1 (.slice pa pn pc) (.func (.func 194) #[] #[.pointer (some ⟨kb, 0, none⟩)])) := ⟨kb, rfl, (by rw [hsz] at h1; omega), h2, (unhide HO).trans h3⟩; clear h1 h2 h3)
 go_ret
 exact ⟨_, rfl, unhide H1⟩
theorem snoc_ind {α : Type} {P : List α → Prop} (h0 : P []) (hs : ∀ l x, P l → P (l ++ [x])) (l : List α) : P l := by
 rw [← List.reverse_reverse l]
 generalize l.reverse = r
 induction r with
 | nil => exact h0
 | cons x r ih => rw [List.reverse_cons]; exact hs _ _ ih
namespace Cs
def gE : List (Int × Int) → List (Int × Int) × Int
 | l => l.foldl (fun s x => (s.1 ++ [(s.2, x.1 - 1)], x.2 + 1)) ([], 0)
theorem gE_nil : gE [] = ([], 0) := rfl
theorem gE_snoc (l : List (Int × Int)) (x : Int × Int) : gE (l ++ [x]) = ((gE l).1 ++ [((gE l).2, x.1 - 1)], x.2 + 1) := by simp [gE]
theorem gaps_fold : ∀ (l : List (Int × Int)) (e : List (Int × Int)) (b : Int), (l.foldl (fun s x => (s.1 ++ [(s.2, x.1 - 1)], x.2 + 1)) (e, b)).1 ++ [((l.foldl (fun (s : List (Int × Int) × Int) x => (s.1 ++ [(s.2, x.1 - 1)], x.2 + 1)) (e, b)).2, 1114111)] = e ++ gaps b l
 | [], e, b => rfl
 | x :: l, e, b => by
   rw [List.foldl_cons, gaps_fold l]
   simp [gaps]
theorem gE_all (l : List (Int × Int)) : (gE l).1 ++ [((gE l).2, 1114111)] = gaps 0 l := by
 have := gaps_fold l [] 0
 simpa [gE] using this
theorem gE_pre {pre l : List (Int × Int)} (h : pre <+: l) : (gE pre).1 <+: (gE l).1 := by
 obtain ⟨r, rfl⟩ := h
 refine snoc_ind (P := fun r => (gE pre).1 <+: (gE (pre ++ r)).1) (by simp) (fun r x ih => ?_) r
 show _ <+: (gE (pre ++ (r ++ [x]))).1
 rw [← List.append_assoc, gE_snoc]
 exact List.IsPrefix.trans ih (List.prefix_append _ _)
theorem gE_step {pre l : List (Int × Int)} {x : Int × Int} (h : (pre ++ [x]) <+: l) : ((gE pre).1 ++ [((gE pre).2, x.1 - 1)]) <+: gaps 0 l := by
 have h1 := gE_pre h
 rw [gE_snoc] at h1
 rw [← gE_all]
 exact List.IsPrefix.trans h1 (List.prefix_append _ _)
theorem gE_lo : ∀ (l : List (Int × Int)), (∀ x ∈ l, okS x) → 0 ≤ (gE l).2 ∧ (gE l).2 ≤ 1114112 := by
 refine snoc_ind (P := fun l => (∀ x ∈ l, okS x) → 0 ≤ (gE l).2 ∧ (gE l).2 ≤ 1114112) (fun _ => by rw [gE_nil]; exact ⟨by simp, by simp⟩) (fun l x ih h => ?_)
 rw [gE_snoc]
 have := h x (by simp)
 unfold okS at this
 simp only
 omega
end Cs
structure GapBox (w : World) (k lp : Nat) (b : Int) : Prop where
 y : w.cell? ⟨k, 0, none⟩ = some (.func (.yield lp) #[] #[])
 b : w.cell? ⟨k + 1, 0, none⟩ = some (.int .i32 b)
 f : w.frozen? ⟨k + 1, 0, none⟩ = false
theorem GapBox.keep {P : Nat → Prop} {w w' : World} {k lp : Nat} {b : Int} (h : GapBox w k lp b) (o : Only P w w') (h0 : ¬ P k) (h1 : ¬ P (k + 1)) : GapBox w' k lp b :=
 ⟨(o.cell (p := ⟨k, 0, none⟩) (World.block_lt_of_cell? w _ h.y) h0).trans h.y, (o.cell (p := ⟨k + 1, 0, none⟩) (World.block_lt_of_cell? w _ h.b) h1).trans h.b, (o.frozen (p := ⟨k + 1, 0, none⟩) (World.block_lt_of_cell? w _ h.b) h1).trans h.f⟩
def GapI (k0 lp : Nat) (J : List (Int × Int) → (Nat → Prop) → World → Prop) (pre : List (Int × Int)) (O : Nat → Prop) (X : World) : Prop :=
 ∃ Oj : Nat → Prop, (∀ k, O k ↔ Oj k ∨ k = k0 ∨ k = k0 + 1) ∧ ¬ Oj k0 ∧ ¬ Oj (k0 + 1) ∧ J (Cs.gE pre).1 Oj X ∧ GapBox X k0 lp (Cs.gE pre).2 ∧ k0 + 2 ≤ X.heap.size ∧ True
set_option maxHeartbeats 4000000 in
set_option maxRecDepth 1000000 in
theorem gaps_seq (sv : Value) (l : List (Int × Int)) (A : Nat → Prop) (kb : Nat) (w0 : World) (h : SpanRow w0 A sv l) (hr : Cs.Rising l) (hkb : w0.cell? ⟨kb, 0, none⟩ = some sv) (n : Nat) (hn1 : 5 ≤ n) :
   SeqO Fence.wide n Tryz.prog 220 #[.pointer (some ⟨kb, 0, none⟩)] encSp (Cs.gaps 0 l) (fun k => k = kb ∨ (A k ∧ k < w0.heap.size)) w0 := by
 intro lp J O0 W hO hD hO0 hJ hY h0
 have hk0 := World.block_lt_of_cell? w0 _ hkb
 have hk := (hO.cell (p := ⟨kb, 0, none⟩) hk0 (fun f => f)).trans hkb
 obtain ⟨pa, pn, pc, rfl⟩ : ∃ pa pn pc, sv = .slice pa pn pc := by rcases h with ⟨h1, _⟩ | ⟨g, cap, h1, _⟩ <;> exact ⟨_, _, _, h1⟩
 have HW : Hid (SpanRow W (fun g => A g ∧ g < w0.heap.size) (.slice pa pn pc) l) := (h.mono (fun g hg hA => ⟨hA, hg⟩)).keep hO (fun _ _ f => f)
 have HJ := hide hJ
 have HY := hide hY
 have H0 := hide h0
 have HD := hide hD
 have HO0 := hide hO0
 have HR := hide hr
 have HOW := hide hO
 clear h hJ hY h0 hD hO0 hr hO
 have HA : Hid (Only (fun _ => False) W ((W.alloc (.cells #[.func (.yield lp) #[] #[]] 350)).alloc (.cells #[.int .i32 0] 21))) := ((Only.refl _ _).alloc _).alloc _
 have hkW := World.block_lt_of_cell? W _ hk
 have hk2 := ((unhide HA).cell (p := ⟨kb, 0, none⟩) hkW (fun f => f)).trans hk
 have HB : Hid (GapBox ((W.alloc (.cells #[.func (.yield lp) #[] #[]] 350)).alloc (.cells #[.int .i32 0] 21)) W.heap.size lp 0) := by
   have hs1 : (W.alloc (.cells #[.func (.yield lp) #[] #[]] 350)).heap.size = W.heap.size + 1 := by simp
   refine ⟨?_, new_cell _ _ hs1 _ _ 0 _ rfl, new_frozen _ _ hs1 _ _ 0⟩
   exact (((Only.refl (fun _ => False) _).alloc _).cell (p := ⟨W.heap.size, 0, none⟩) (by rw [hs1]; exact Nat.lt_succ_self _) (fun f => f)).trans (new_cell W _ rfl _ _ 0 _ rfl)
 have eg : ∀ args w, (callFunc 194 args).run Tryz.prog w = .ok (.enter 194 args) w := enters_of Tryz.func194 (by kernel_rfl) rfl
 refine callsIn_of_wp_marks Tryz.func220 rfl trivial ?_ rfl
 simp only [Tryz.ntmps220, List.size_toArray, List.length_cons, List.length_nil, Nat.reduceAdd, Nat.reduceSub, Array.replicate_succ, Array.replicate_zero, List.push_toArray, List.append_toArray, List.nil_append, List.cons_append]
 gi_wp2
 refine ⟨trivial, fun h => by simp [Fence.wide] at h, ?_⟩
 refine (callsIn_wide.2 (ranges_any _ _ ⟨_, _, _, rfl⟩)).mono ?_
 rintro e w1 ⟨v, rfl, kb2, rfl, hk21, hk22, hO2⟩
 have HO2 := hide hO2
 have HK2 := hide hk22
 clear hO2 hk22
 gi_wp2
 have hW2 : ((W.alloc (.cells #[.func (.yield lp) #[] #[]] 350)).alloc (.cells #[.int .i32 0] 21)).heap.size = W.heap.size + 2 := by simp
 rw [hW2] at hk21
 have HO3 := hide ((unhide HA).trans (unhide HO2))
 have hsz1 := (unhide HO2).size
 rw [hW2] at hsz1
 have HB1 : Hid (GapBox w1 W.heap.size lp 0) := (unhide HB).keep (unhide HO2) (fun f => f) (fun f => f)
 have HW1 := hide ((unhide HW).keep (unhide HO3) (fun _ _ f => f))
 have hlen := (unhide HR).len
 have hWw := (unhide HOW).size
 clear HB HW HA hk2 hW2
 refine wpIn_rangeO (F := Fence.wide) rfl (by omega) (gf := 194) (lb := #[.pointer (some ⟨kb2, 0, none⟩)]) rfl trivial eg
   (eachSp_seq _ l _ kb2 w1 (unhide HW1) (unhide HK2) (by omega) (n - 1) (by omega)) (fun _ => rfl) (GapI W.heap.size lp J) (fun k => O0 k ∨ k = W.heap.size ∨ k = W.heap.size + 1) ?o ?d ?i ?z
   (fun x => { tmps := #[.func (.yield lp) #[] #[], .pointer (some ⟨kb, 0, none⟩), .pointer (some ⟨W.heap.size, 0, none⟩), .pointer (some ⟨W.heap.size + 1, 0, none⟩), .int .i32 x.1, .int .i32 x.2, .agg #[.slice pa pn pc], .func (.func 194) #[] #[.pointer (some ⟨kb2, 0, none⟩)], .int .i32 x.1, .int .i32 x.2, undef, undef, undef, undef, undef, undef, undef, undef, undef, undef, undef], defers := [] }) ?assign ?body ?done
 case o =>
   rintro k (h | h | h)
   · have := unhide HO0 k h; omega
   · omega
   · omega
 case d =>
   rintro k (rfl | ⟨⟨hA, hk⟩, h1⟩)
   · refine ⟨World.block_lt_of_cell? w1 _ (unhide HK2), ?_⟩
     rintro (h | h | h)
     · have := unhide HO0 _ h; omega
     · omega
     · omega
   · refine ⟨h1, ?_⟩
     rintro (h | h | h)
     · exact unhide HD k (.inr ⟨hA, hk⟩) h
     · omega
     · omega
 case i =>
   rintro pre O X X' ⟨Oj, h1, h2, h3, h4, h5, h6, h7⟩ hX
   exact ⟨Oj, h1, h2, h3, unhide HJ _ _ _ _ h4 (hX.mono (fun k _ hk => ⟨by omega, fun h => hk.2 ((h1 k).2 (.inl h))⟩)), h5.keep hX (fun h => by omega) (fun h => by omega), Nat.le_trans h6 hX.size, h7⟩
 case z =>
   exact ⟨O0, fun _ => Iff.rfl, fun h => by have := unhide HO0 _ h; omega, fun h => by have := unhide HO0 _ h; omega, unhide HJ _ _ _ _ (unhide H0) ((unhide HO3).mono (fun _ _ f => f.elim)), unhide HB1, by omega, trivial⟩
 case assign =>
   intro l x W K hK
   unfold encSp
   gi_wp2
   exact hK
 case body =>
   rintro l2 pre O x V hl2 hOl ⟨r, hr⟩ ⟨Oj, h1, h2, h3, h4, h5, h6, h7⟩ hpre
   have hx := (unhide HR).2 x (hpre.subset (by simp))
   have hb := Cs.gE_lo pre (fun y hy => (unhide HR).2 y (hpre.subset (by simp [hy])))
   obtain ⟨fn, tmps, assign, body, hy, hR⟩ := YieldAt.anyN (m' := n - 1 - 1 - 1) (unhide HY (Cs.gE pre).1 Oj ((Cs.gE pre).2, x.1 - 1) V h4 (Cs.gE_step hpre))
   simp only [encSp] at hy
   obtain ⟨c1, c2, f2⟩ := h5
   have H5 : Hid (GapBox V W.heap.size lp (Cs.gE pre).2) := ⟨c1, c2, f2⟩
   obtain ⟨xa, xc⟩ := x
   unfold Cs.okS at hx
   simp only [] at hx hy ⊢
   generalize hgb : (Cs.gE pre).2 = gb at *
   gi_wp2
   refine ⟨fun h => by simp [Fence.wide] at h, RoundIn.mono hR ?_⟩
   rintro e V2 ⟨rfl, O', hJ2, hs2, hO2, hlt2⟩
   have hB2 := (unhide H5).keep hO2 h2 h3
   obtain ⟨e1, e2, g2⟩ := hB2
   have HB2 : Hid (GapBox V2 W.heap.size lp gb) := ⟨e1, e2, g2⟩
   have n0 : ¬ O' W.heap.size := fun h => by
     rcases hs2 _ h with h | h
     · exact h2 h
     · omega
   have n1 : ¬ O' (W.heap.size + 1) := fun h => by
     rcases hs2 _ h with h | h
     · exact h3 h
     · omega
   have HJ2 := hide hJ2
   have HS2 := hide hs2
   have HO4 := hide hO2
   have hsz2 := hO2.size
   clear hJ2 hs2 hO2 hy hR
   gi_wp2
   refine ⟨fun k => O' k ∨ k = W.heap.size ∨ k = W.heap.size + 1, ⟨O', fun _ => Iff.rfl, n0, n1, ?_, ?_, by simp [World.setCell]; omega, trivial⟩, ?_, ?_, ?_⟩
   · rw [Cs.gE_snoc, hgb]
     exact unhide HJ _ _ _ _ (unhide HJ2) ((Only.refl _ _).setCell (p := ⟨W.heap.size + 1, 0, none⟩) (.inl ⟨by simp, n1⟩) _)
   · rw [Cs.gE_snoc]
     exact ⟨(World.cell?_setCell_other _ _ _ _ (by simp)).trans e1, World.cell?_setCell_same _ _ _ e2, (frozen_setCell _ _ _ _).trans g2⟩
   · rintro k (h | h | h)
     · rcases unhide HS2 k h with h | h
       · exact .inl ((h1 k).2 (.inl h))
       · exact .inr h
     · exact .inl ((h1 k).2 (.inr (.inl h)))
     · exact .inl ((h1 k).2 (.inr (.inr h)))
   · exact ((unhide HO4).mono (fun k _ h => (h1 k).2 (.inl h))).setCell (p := ⟨W.heap.size + 1, 0, none⟩) (.inl ((h1 _).2 (.inr (.inr rfl)))) _
   · intro k hk
     simp only [World.setCell, Array.size_modify]
     rcases hk with h | h | h
     · exact hlt2 k h
     · omega
     · omega
 case done =>
   rintro D O V hDw hOD ⟨Oj, h1, h2, h3, h4, h5, h6, h7⟩ hK
   have hb := Cs.gE_lo l (unhide HR).2
   obtain ⟨fn, tmps, assign, body, hy, hR⟩ := YieldAt.anyN (m' := n - 1) (unhide HY (Cs.gE l).1 Oj ((Cs.gE l).2, 1114111) V h4 (by rw [Cs.gE_all]; exact List.prefix_refl _))
   simp only [encSp] at hy
   obtain ⟨c1, c2, f2⟩ := h5
   have HE := hide (Cs.gE_all l)
   generalize hgb : (Cs.gE l).2 = gb at *
   gi_wp2
   refine ⟨fun h => by simp [Fence.wide] at h, RoundIn.mono hR ?_⟩
   rintro e V2 ⟨rfl, O', hJ2, hs2, hO2, hlt2⟩
   have HJ2 := hide hJ2
   have hDV : D < V.heap.size := (Array.getElem?_eq_some_iff.1 hK).1
   have hOjD : ¬ Oj D := fun h => hOD ((h1 D).2 (.inl h))
   have hK2 := (hO2.block D hDV hOjD).trans hK
   have hnD : ¬ O' D := fun h => by
     rcases hs2 _ h with h | h
     · exact hOjD h
     · omega
   clear hJ2 hs2 hO2 hy hR
   gi_wp2
   refine ⟨by simp, .inl ⟨_, _, rfl, run_takeDeferred hK2, ?_⟩⟩
   refine ⟨_, results_none rfl _ _ _, ⟨_, rfl⟩, O', ?_⟩
   rw [← unhide HE]
   exact unhide HJ _ _ _ _ (unhide HJ2) ((Only.refl _ _).putObj D _ (.inl ⟨by omega, hnD⟩))
end Go.Proofs.YtnagphodmfejiaaGreatDoor
namespace Go.Proofs.YtnagphodmfejiaaGreatDoor
open Go.RowKit
def spCells (l : List (Int × Int)) : List Value := l.flatMap fun x => [.int .i32 x.1, .int .i32 x.2]
theorem spCells_append (l m : List (Int × Int)) : spCells (l ++ m) = spCells l ++ spCells m := by simp [spCells]
theorem spCells_len (l : List (Int × Int)) : (spCells l).length = l.length * 2 := by
 induction l with
 | nil => rfl
 | cons x l ih => simp [spCells] at ih ⊢; omega
theorem spCells_at : ∀ (l : List (Int × Int)) (j : Nat) (p : Int × Int), l[j]? = some p → (spCells l)[j * 2]? = some (.int .i32 p.1) ∧ (spCells l)[j * 2 + 1]? = some (.int .i32 p.2)
 | [], j, p, h => by simp at h
 | x :: l, 0, p, h => by simp at h; subst h; simp [spCells]
 | x :: l, j + 1, p, h => by
   have := spCells_at l j p (by simpa using h)
   rw [show (j + 1) * 2 = j * 2 + 2 by omega]
   simpa [spCells] using this
theorem Tryz.infoSpan : (Tryz.prog.info? 263).map (fun i => (i.zero, i.size, i.bytes)) = some (some (.agg #[.int .i32 0, .int .i32 0]), 2, 8) := by kernel_rfl
theorem span_row {base : Nat} {w : World} {sv : Value} {l : List (Int × Int)} (h : w.ownsRow base 263 2 sv l.length (spCells l)) : SpanRow w (fun g => sv.ownBlock = some g) sv l := by
 have hl := ownsRow_block h
 have hc := @World.ownsRow.cells w base 263 2 sv l.length (spCells l) h
 rcases h.2 with ⟨rfl, h0⟩ | ⟨g, cap, cur, rfl, hb, hg, hn, _⟩
 · exact .inl ⟨rfl, List.eq_nil_of_length_eq_zero h0⟩
 · exact .inr ⟨g, cap, rfl, rfl, hn, (hl g rfl).2, fun j p hj => by
     obtain ⟨h1, h2⟩ := spCells_at l j p hj
     have e : ∀ q, (⟨g, 0, none⟩ : Addr).add q = ⟨g, q, none⟩ := fun q => by unfold Addr.add; split <;> simp_all
     have k1 := hc (g := g) rfl _ _ h1
     have k2 := hc (g := g) rfl _ _ h2
     rw [e] at k1 k2
     exact ⟨k1, k2⟩⟩
structure Grew (base : Nat) (w w' : World) (sv sv' : Value) (l' : List (Int × Int)) : Prop where
 row : w'.ownsRow base 263 2 sv' l'.length (spCells l')
 only : Only (fun k => sv.ownBlock = some k) w w'
 sep : ∀ k, sv'.ownBlock = some k → sv.ownBlock = some k ∨ w.heap.size ≤ k
set_option maxHeartbeats 1000000 in
theorem appendSpan_any (base : Nat) (sv : Value) (l : List (Int × Int)) (a b : Int) (w : World) (h : w.ownsRow base 263 2 sv l.length (spCells l)) (hbase : base ≤ w.heap.size) (hl : l.length ≤ 10000000) :
   Calls Tryz.prog 189 #[sv, .int .i32 a, .int .i32 b] w fun e w' => ∃ sv', e = .returned sv' ∧ Grew base w w' sv sv' (l ++ if a ≤ b then [(a, b)] else []) := by
 obtain ⟨i0, hi, hz0, hz1, hz2⟩ := info_parts Tryz.infoSpan
 obtain ⟨pa, pn, pc, rfl⟩ := own_slice h
 have Hown := hide h
 clear h
 by_cases hab : a ≤ b
 · simp only [hab, if_true]
   have hd : decide (b < a) = false := by simp; omega
   go_enter Tryz.func189, Tryz.ntmps189
   go_wp2_with (at_builtin; refine append_sep _ rfl _ _ 151 rfl base 263 i0 (.agg #[.int .i32 0, .int .i32 0]) 2 8 Tryz.underlying151 hi hz0 hz1 hz2 rfl (by decide) _ _ (spCells l) rfl (World.ownsRow.alloc (unhide Hown) _) _ 1 1 [.int .i32 a, .int .i32 b] rfl rfl (cell_two_new _ _ _ _) (fun x hx => by simp at hx; rcases hx with rfl | rfl <;> rfl) (by unfold maxLen; omega) (by omega) (by simp; omega) ?_; intro v' w4 hown' hgrow hsep; have HG : Hid (Grew base w w4 (.slice pa pn pc) v' (l ++ [(a, b)])) := ⟨(by rw [List.length_append, spCells_append]; exact hown'), ((Only.refl _ _).alloc _).grown hgrow (fun k hk => .inl hk), (fun k hk => (hsep k hk).imp_right (fun h => by simp at h; omega))⟩; clear hown' hgrow hsep)
   go_ret
   exact ⟨_, rfl, unhide HG⟩
 · simp only [hab, if_false, List.append_nil]
   have hd : b < a := by omega
   go_enter Tryz.func189, Tryz.ntmps189
   go_wp2_with fail
   go_ret
   exact ⟨_, rfl, unhide Hown, Only.refl _ _, fun k hk => .inl hk⟩
end Go.Proofs.YtnagphodmfejiaaGreatDoor
