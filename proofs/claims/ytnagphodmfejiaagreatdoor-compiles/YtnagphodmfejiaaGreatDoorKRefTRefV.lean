/- Quantifiers and tokens leave the lexer at a character's beginning. Plain facts. The reference's tokens of a pattern. The reference's groups: where one closes. -/
import Derived.Test.YtnagphodmfejiaaGreatDoorKRefRRefS
namespace Go.Proofs.YtnagphodmfejiaaGreatDoor
open Go.RowKit
namespace Ref
theorem restF_good {s : ByteArray} {mn : Int} {st : St} (h : Good s st.i) : Good s (restF s mn st).2.i := by
 unfold restF
 split
 · rename_i hh
   have g1 := h.ascii (by omega) (by omega)
   split
   · exact g1
   · exact countF_good (st := st.go 1) g1
 · exact h
theorem restF_ge (s : ByteArray) (mn : Int) (st : St) : st.i ≤ (restF s mn st).2.i := by
 unfold restF
 split
 · split
   · simp only [St.go]; omega
   · have := (countF_bd s (st.go 1)).2.2.1; simp only [St.go] at this ⊢; omega
 · exact Nat.le_refl _
theorem braceF_i (s : ByteArray) (st : St) : (braceF s st).i = st.i := by unfold braceF; split; exact fail_i _ _ _; rfl
theorem countsF_good {s : ByteArray} {st : St} (h : Good s st.i) (hb : byteAt s st.i = 123) : st.i < (countsF s st).2.2.i ∧ ((countsF s st).2.2.e = 0 → Good s (countsF s st).2.2.i) := by
 have g1 := h.ascii (by omega) (by omega)
 have g2 := restF_good (mn := (countF s (st.go 1)).1) (countF_good (st := st.go 1) g1)
 have l1 := (countF_bd s (st.go 1)).2.2.1
 have l2 := restF_ge s (countF s (st.go 1)).1 (countF s (st.go 1)).2
 have l0 : (st.go 1).i = st.i + 1 := rfl
 unfold countsF
 dsimp only
 generalize restF s (countF s (st.go 1)).1 (countF s (st.go 1)).2 = r at *
 have hbi := braceF_i s r.2
 have hgi : ((braceF s r.2).go 1).i = r.2.i + 1 := by show (braceF s r.2).i + 1 = _; rw [hbi]
 split
 · exact ⟨by rw [fail_i, hgi]; omega, fun h0 => absurd h0 (fail_ne _ _ _ (by decide))⟩
 · refine ⟨by rw [hgi]; omega, fun h0 => ?_⟩
   rw [hgi]
   have h0' : (braceF s r.2).e = 0 := h0
   by_cases hc : r.2.e = 0 ∧ byteAt s r.2.i ≠ 125
   · unfold braceF at h0'; rw [if_pos hc] at h0'; exact absurd h0' (fail_ne _ _ _ (by decide))
   · unfold braceF at h0'; rw [if_neg hc] at h0'
     have : byteAt s r.2.i = 125 := Classical.byContradiction fun hn => hc ⟨h0', hn⟩
     exact g2.ascii (by omega) (by omega)
theorem lazyF_fine {s : ByteArray} {st : St} (h : st.e = 0 → Good s st.i) (hi : st.i ≤ s.size + 2) : st.i ≤ (lazyF s st).i ∧ (lazyF s st).i ≤ s.size + 2 ∧ ((lazyF s st).e = 0 → Good s (lazyF s st).i) := by
 unfold lazyF
 split
 · rename_i hh
   have g := (h hh.1).ascii (by omega) (by omega)
   have := g.le
   exact ⟨by simp only [St.go]; omega, by simp only [St.go]; omega, fun _ => g⟩
 · exact ⟨Nat.le_refl _, hi, h⟩
theorem quantB_cases {b : Int} (h : quantB b = true) : b = 42 ∨ b = 43 ∨ b = 63 ∨ b = 123 := by simp [quantB] at h; omega
theorem quantF_fine {s : ByteArray} {st : St} (h : Good s st.i) (hb : quantB (byteAt s st.i) = true) : st.i < (quantF s st).2.2.i ∧ (quantF s st).2.2.i ≤ s.size + 2 ∧ ((quantF s st).2.2.e = 0 → Good s (quantF s st).2.2.i) := by
 have hq := quantB_cases hb
 have g1 := h.ascii (by omega) (by omega)
 have l1 := g1.le
 have one : st.i < (lazyF s (st.go 1)).i ∧ (lazyF s (st.go 1)).i ≤ s.size + 2 ∧ ((lazyF s (st.go 1)).e = 0 → Good s (lazyF s (st.go 1)).i) := by
   have := lazyF_fine (st := st.go 1) (fun _ => g1) (by show st.i + 1 ≤ _; omega)
   exact ⟨by have := this.1; simp only [St.go] at this ⊢; omega, this.2⟩
 unfold quantF
 split
 · exact one
 split
 · exact one
 split
 · exact one
 · have hb' : byteAt s st.i = 123 := by omega
   have hi : st.i < s.size := by rw [← byteAt_nonneg]; omega
   have c := countsF_good h hb'
   have ci := countsF_i s st hi
   have := lazyF_fine (st := (countsF s st).2.2) c.2 ci
   exact ⟨by have := this.1; dsimp only; omega, this.2⟩
theorem tokenF_fine {s : ByteArray} {st : St} (h : Good s st.i) (hi : st.i < s.size) : (tokenF s st).2.i ≤ s.size + 2 ∧ ((tokenF s st).2.e = 0 → st.i < (tokenF s st).2.i ∧ Good s (tokenF s st).2.i) ∧ st.i ≤ (tokenF s st).2.i := by
 have one : 0 ≤ byteAt s st.i → byteAt s st.i < 128 → (st.go 1).i ≤ s.size + 2 ∧ ((st.go 1).e = 0 → st.i < (st.go 1).i ∧ Good s (st.go 1).i) ∧ st.i ≤ (st.go 1).i := fun a b => by
   have g := h.ascii a b
   have := g.le
   exact ⟨by simp only [St.go]; omega, fun _ => ⟨by simp only [St.go]; omega, g⟩, by simp only [St.go]; omega⟩
 unfold tokenF
 split
 · exact one (by omega) (by omega)
 split
 · rename_i hh
   have g := (h.ascii (by omega) (by omega)).ascii (by omega) (by omega)
   have := g.le
   exact ⟨by simp only [St.go]; omega, fun _ => ⟨by simp only [St.go]; omega, g⟩, by simp only [St.go]; omega⟩
 split
 · exact one (by omega) (by omega)
 split
 · exact one (by omega) (by omega)
 split
 · have g1 := h.ascii (by omega) (by omega)
   have hF : Fine s (classSt s (st.go 1)) := by
     unfold classSt
     split
     · rename_i hn
       simp only [notB, decide_eq_true_eq] at hn
       have := Good.ascii (s := s) (p := (st.go 1).i) g1 (by omega) (by omega)
       exact ⟨this.le, fun _ => this⟩
     · exact ⟨g1.le, fun _ => g1⟩
   have hge : st.i + 1 ≤ (classSt s (st.go 1)).i := by unfold classSt; split <;> simp only [St.go] <;> omega
   have hc := classF_fine s (s.size + 1 - (classSt s (st.go 1)).i) [] (classSt s (st.go 1)) hF (by have := hF.1; omega)
   unfold classR
   exact ⟨by dsimp only; omega, fun h0 => ⟨by dsimp only; omega, hc.2.2 h0⟩, by dsimp only; omega⟩
 split
 · rename_i hb
   have hf := escapeF_fine (cls := false) h hb
   exact ⟨by have := hf.1.1; dsimp only; omega, fun h0 => ⟨hf.2, hf.1.2 h0⟩, by have := hf.2; dsimp only; omega⟩
 split
 · rename_i hb
   have hf := openF_fine h hb
   exact ⟨by have := hf.1.1; dsimp only; omega, fun h0 => ⟨hf.2, hf.1.2 h0⟩, by have := hf.2; dsimp only; omega⟩
 split
 · exact one (by omega) (by omega)
 split
 · refine ⟨by rw [fail_i]; omega, fun h0 => absurd h0 (fail_ne _ _ _ (by decide)), by rw [fail_i]; omega⟩
 · obtain ⟨n, c, ho, hg⟩ := h.next hi
   rw [ho]
   have hb := oneF_bd ho
   exact ⟨by simp only [St.go]; omega, fun _ => ⟨by simp only [St.go]; omega, hg⟩, by simp only [St.go]; omega⟩
section
variable {s : ByteArray} {f : Nat} {l : List Tok} {op : Int} {atom : Bool} {st : St}
theorem tokensF_quant (h : st.i < s.size ∧ st.e = 0) (h1 : atom = true ∧ quantB (byteAt s st.i) = true) : tokensF s (f + 1) l op atom st = tokensF s f (l ++ [⟨6, false, [], 0, (quantF s st).1, (quantF s st).2.1⟩]) op false (quantF s st).2.2 := by
 simp only [tokensF]; rw [if_pos h, if_pos h1]
theorem tokensF_deep (h : st.i < s.size ∧ st.e = 0) (h1 : ¬ (atom = true ∧ quantB (byteAt s st.i) = true)) (h2 : byteAt s st.i = 40 ∧ op = 10) : tokensF s (f + 1) l op atom st = ([], 7, (st.i : Int)) := by
 simp only [tokensF]; rw [if_pos h, if_neg h1, if_pos h2]
theorem tokensF_tok (h : st.i < s.size ∧ st.e = 0) (h1 : ¬ (atom = true ∧ quantB (byteAt s st.i) = true)) (h2 : ¬ (byteAt s st.i = 40 ∧ op = 10)) : tokensF s (f + 1) l op atom st = tokensF s f (l ++ [(tokenF s st).1]) (turnO (tokenF s st).1.kind op) (((tokenF s st).1.kind == 1) || ((tokenF s st).1.kind == 4))
         (if turnO (tokenF s st).1.kind op < 0 then (tokenF s st).2.fail 3 st.i else (tokenF s st).2) := by
 simp only [tokensF]; rw [if_pos h, if_neg h1, if_neg h2]
theorem tokensF_end (h : ¬ (st.i < s.size ∧ st.e = 0)) : tokensF s (f + 1) l op atom st = (l, (if 0 < op then st.fail 3 s.size else st).e, (if 0 < op then st.fail 3 s.size else st).a) := by
 simp only [tokensF]; rw [if_neg h]
end
end Ref
end Go.Proofs.YtnagphodmfejiaaGreatDoor
namespace Go.Proofs.YtnagphodmfejiaaGreatDoor
open Go.RowKit
theorem Tryz.infoTok : (Tryz.prog.info? 178).map (fun i => (i.zero, i.size, i.bytes)) = some (some (.agg #[.int .i64 0, .bool false, .slice none 0 0, .int .i64 0, .int .i64 0, .int .i64 0]), 6, 64) := by kernel_rfl
theorem Ref.tokenF_open {s : ByteArray} {st : St} (h : (Ref.tokenF s st).1.kind = 3) : byteAt s st.i = 40 := by
 unfold Ref.tokenF at h
 (repeat' split at h) <;> simp_all
namespace Ref
section
variable {s : ByteArray} {f : Nat} {L : List Tok} {k op : Int} {A B : St}
theorem tk3 (m1 : (k == 3) = true) (h : 0 ≤ op) : tokensF s f L (turnO k op) ((k == 1) || (k == 4)) (if turnO k op < 0 then A else B) = tokensF s f L (op + 1) false B := by
 have e : k = 3 := by simpa using m1
 subst e
 have e1 : turnO 3 op = op + 1 := by simp [turnO]
 rw [e1, if_neg (by omega)]; rfl
theorem tk4 (m1 : (k == 3) = false) (m2 : (k == 4) = true) (_m3 : (k == 1) = false) (h : 0 ≤ op - 1) : tokensF s f L (turnO k op) ((k == 1) || (k == 4)) (if turnO k op < 0 then A else B) = tokensF s f L (op - 1) true B := by
 have e : k = 4 := by simpa using m2
 subst e
 have e1 : turnO 4 op = op - 1 := by simp [turnO]
 rw [e1, if_neg (by omega)]; rfl
theorem tk4n (m1 : (k == 3) = false) (m2 : (k == 4) = true) (_m3 : (k == 1) = false) (h : op - 1 < 0) : tokensF s f L (turnO k op) ((k == 1) || (k == 4)) (if turnO k op < 0 then A else B) = tokensF s f L (op - 1) true A := by
 have e : k = 4 := by simpa using m2
 subst e
 have e1 : turnO 4 op = op - 1 := by simp [turnO]
 rw [e1, if_pos (by omega)]; rfl
theorem tk1 (m1 : (k == 3) = false) (_m2 : (k == 4) = false) (m3 : (k == 1) = true) (h : 0 ≤ op) : tokensF s f L (turnO k op) ((k == 1) || (k == 4)) (if turnO k op < 0 then A else B) = tokensF s f L op true B := by
 have e : k = 1 := by simpa using m3
 subst e
 have e1 : turnO 1 op = op := by simp [turnO]
 rw [e1, if_neg (by omega)]; rfl
theorem tk0 (m1 : (k == 3) = false) (m2 : (k == 4) = false) (m3 : (k == 1) = false) (h : 0 ≤ op) : tokensF s f L (turnO k op) ((k == 1) || (k == 4)) (if turnO k op < 0 then A else B) = tokensF s f L op false B := by
 have e1 : turnO k op = op := by simp at m1 m2; simp [turnO, m1, m2]
 rw [e1, if_neg (by omega), m2, m3]; rfl
end
end Ref
theorem cells_six_new (w : World) (a0 a1 a2 a3 a4 a5 : Value) (T : TypeId) : ∀ j u, [a0, a1, a2, a3, a4, a5][j]? = some u → (w.alloc (.cells #[a0, a1, a2, a3, a4, a5] T)).cell? ((⟨w.heap.size, 0, none⟩ : Addr).add j) = some u := by
 intro j u hj
 have h := new_cell w w.heap.size rfl #[a0, a1, a2, a3, a4, a5] T j u (by simpa using hj)
 have e : (⟨w.heap.size, 0, none⟩ : Addr).add j = ⟨w.heap.size, j, none⟩ := by
   cases j with
   | zero => simp [Addr.add]
   | succ j => simp [Addr.add]
 rw [e]; exact h
def lexE (w : World) (b : Nat) : Int := match w.cell? ⟨b, 2, none⟩ with
 | some v => intOf v
 | none => 0
theorem lexE_of {w : World} {b : Nat} {s : ByteArray} {st : St} (h : Lex w b s st) : lexE w b = st.e := by unfold lexE; rw [h.c2]; simp [intOf]
theorem lex_new (w : World) (s : ByteArray) : Lex (w.alloc (.cells #[.string s, .int .i64 0, .int .i64 0, .int .i64 0] 175)) w.heap.size s ⟨0, 0, 0⟩ :=
 ⟨new_cell _ _ rfl _ _ 0 _ rfl, new_cell _ _ rfl _ _ 1 _ rfl, new_cell _ _ rfl _ _ 2 _ rfl, new_cell _ _ rfl _ _ 3 _ rfl, new_frozen _ _ rfl _ _ 1, new_frozen _ _ rfl _ _ 2, new_frozen _ _ rfl _ _ 3⟩
set_option maxHeartbeats 3200000 in
set_option maxRecDepth 100000 in
theorem tokens_any (s : ByteArray) (w : World) (hs : s.size ≤ 400) (hg : Ref.Good s 0) :
   Calls Tryz.prog 36 #[.string s] w fun x w' =>
     ∃ v, x = .returned (.tuple #[v, .int .i64 (Ref.tokensR s).2.1, .int .i64 (Ref.tokensR s).2.2]) ∧ ToksAt w' (w.heap.size + 1) v (Ref.tokensR s).1 ∧ Only (fun _ => False) w w' := by
 have HG := hide hg
 clear hg
 go_enter Tryz.func36, Tryz.ntmps36
 go_wp2_with fail
 go_loopw [6, 7, 8] (fun v o a wr => ∃ (l : List Tok) (pa : Option Addr) (pn pc : Nat) (op : Int) (atom : Bool) (st' : St) (f : Nat), v = .slice pa pn pc ∧ o = .int .i64 op ∧ a = .bool atom ∧ -1 ≤ op ∧ op ≤ 11 ∧ ToksAt wr (w.heap.size + 1) (.slice pa pn pc) l ∧ Lex wr w.heap.size s st' ∧ Only (fun _ => False) w wr ∧
     w.heap.size + 1 ≤ wr.heap.size ∧ st'.i ≤ s.size + 2 ∧ l.length ≤ st'.i + 1 ∧ Hid (st'.e = 0 → Ref.Good s st'.i ∧ l.length ≤ st'.i ∧ 0 ≤ op ∧ op ≤ 10 ∧ s.size < st'.i + f) ∧ Hid (1 ≤ f) ∧ Hid (Ref.tokensR s = Ref.tokensF s f l op atom st'))
   (fun _ _ _ wr => 2 * (s.size + 3 - lexI wr w.heap.size) + (if lexE wr w.heap.size = 0 then 1 else 0))
 case atStart => exact ⟨[], none, 0, 0, 0, false, ⟨0, 0, 0⟩, s.size + 1, rfl, rfl, rfl, by omega, by omega, ToksAt.nil _ _, lex_new w s, (Only.refl _ _).alloc _, by simp, by simp, by simp, (fun _ => ⟨unhide HG, by simp, by omega, by omega, by simp⟩), (by show 1 ≤ _; omega), rfl⟩
 case round =>
   obtain ⟨l, pa, pn, pc, op, atom, st', f, rfl, rfl, rfl, ho1, ho2, hT, hL, hO, hsz, hil, hll, hGd, hf1, HF⟩ := hrel
   obtain ⟨f, rfl⟩ : ∃ f', f = f' + 1 := ⟨f - 1, by have := unhide hf1; omega⟩
   have hLL := hide hL
   have hTT := hide hT
   have hOO := hide hO
   have hLW := hide hL
   clear hT hO
   obtain ⟨l0, l1, l2, l3, k1, k2, k3⟩ := hL
   by_cases c1 : st'.i < s.size ∧ st'.e = 0
   · obtain ⟨hGi, hle, hop0, hop1, hfu⟩ := unhide hGd c1.2
     have C1 := hide c1
     have hi : st'.i < s.size := c1.1
     have e0 : (st'.e == 0) = true := by simp [c1.2]
     have c2d : decide ((st'.i : Int) < (s.size : Int)) = true := by simp; omega
     have HGi := hide hGi
     have Hfu := hide hfu
     clear c1 hGi hfu
     by_cases c3 : atom = true ∧ Ref.quantB (byteAt s st'.i) = true
     · have HF2 := hide ((unhide HF).trans (Ref.tokensF_quant (f := f) (l := l) (op := op) (unhide C1) c3))
       have hqf := Ref.quantF_fine (unhide HGi) c3.2
       have hqc := Ref.quantB_cases c3.2
       have hat := c3.1
       subst hat
       have hqd : (byteAt s st'.i == 42) = true ∨ ((byteAt s st'.i == 42) = false ∧ (byteAt s st'.i == 43) = true) ∨ ((byteAt s st'.i == 42) = false ∧ (byteAt s st'.i == 43) = false ∧ (byteAt s st'.i == 63) = true) ∨ ((byteAt s st'.i == 42) = false ∧ (byteAt s st'.i == 43) = false ∧ (byteAt s st'.i == 63) = false ∧ (byteAt s st'.i == 123) = true) := by simp; omega
       clear c3 hqc
       go_wp2_with fail
       refine (now_abs w.heap.size s st' _ (unhide hLL) hs).mono ?_
       rintro e w1 ⟨rfl, hON⟩
       have hL1 := (unhide hLL).keep hON (fun f => f)
       have hT1 := (unhide hTT).keep hON (fun _ _ _ f => f)
       have hO1 := (unhide hOO).trans hON
       have hsz1 := hON.size
       have hLL1 := hide hL1
       clear hON l0 l1 l2 l3 k1 k2 k3
       obtain ⟨l0, l1, l2, l3, k1, k2, k3⟩ := hL1
       have HTO := hide (And.intro hT1 hO1)
       clear hT1 hO1
       rcases hqd with y1 | ⟨y1, y2⟩ | ⟨y1, y2, y3⟩ | ⟨y1, y2, y3, y4⟩
       all_goals
         go_wp2_with fail
         refine (quantifier_any w.heap.size s st' _ (unhide hLL1) hs hi (unhide C1).2).mono ?_
         rintro e w2 ⟨rfl, hL5, hO5⟩
         have hT5 := (unhide HTO).1.keep hO5 (by intro g hg _ hh; unfold Mine at hh; omega)
         have hO6 := ((unhide HTO).2).young hO5 (Nat.le_refl _)
         have hlt5 : w.heap.size < w2.heap.size := hL5.lt
         generalize hq : Ref.quantF s st' = q at *
         obtain ⟨mn, mx, st2⟩ := q
         simp only [] at *
         have hk := (Only.refl (fun _ => False) w2).alloc (.cells #[.int .i64 6, .bool false, .slice none 0 0, .int .i64 0, .int .i64 mn, .int .i64 mx] 178)
         have hbn : ¬ (Value.slice pa pn pc).ownBlock = some w2.heap.size := by
           intro hh; obtain ⟨cs, h1, _⟩ := hT5; have := (ownsRow_block h1 _ hh).2; omega
         have hBN := hide hbn
         have H3 := hide (And.intro (hL5.keep hk (fun f => f)) (And.intro (hT5.keep hk (fun _ _ _ f => f)) (And.intro (hO6.trans hk) (Six.new (n := w2.heap.size) (a0 := .int .i64 6) (a1 := .bool false) (a2 := .slice none 0 0) (a3 := .int .i64 0) (a4 := .int .i64 mn) (a5 := .int .i64 mx) w2 178 rfl))))
         clear hk hbn hL5 hT5 hO6 l0 l1 l2 l3 k1 k2 k3
         go_upto_region 10 with fail
         generalize hw3 : w2.alloc (.cells #[.int .i64 6, .bool false, .slice none 0 0, .int .i64 0, .int .i64 mn, .int .i64 mx] 178) = w3 at *
         obtain ⟨hL6, hT6, hO7, hB6⟩ := unhide H3
         clear hw3 H3
         have hLL := hide hL6
         have hBB := hide hB6
         have hOO := hide hO7
         have hsz3 : w2.heap.size < w3.heap.size := hB6.lt
         obtain ⟨cs, hown, htok⟩ := hT6
         obtain ⟨l0, l1, l2, l3, k1, k2, k3⟩ := hL6
         obtain ⟨t0, t1, t2, t3, t4, t5, v0, v1, v2, v3, v4, v5⟩ := hB6
         obtain ⟨i0, hi, hz0, hz1, hz2⟩ := info_parts Tryz.infoTok
         have hll4 : l.length ≤ 500 := by omega
         clear hO7
         go_wp2_with (at_builtin; refine wpList_append_own _ rfl _ _ 48 rfl (w.heap.size + 1) 178 i0 (.agg #[.int .i64 0, .bool false, .slice none 0 0, .int .i64 0, .int .i64 0, .int .i64 0]) 6 64 Tryz.underlying48 hi hz0 hz1 hz2 rfl (by decide) _ _ _ rfl (World.ownsRow.alloc hown _) _ 1 1 [.int .i64 6, .bool false, .slice none 0 0, .int .i64 0, .int .i64 mn, .int .i64 mx] rfl rfl (cells_six_new _ _ _ _ _ _ _ _) (fun x hx => by simp at hx; rcases hx with rfl | rfl | rfl | rfl | rfl | rfl <;> rfl) (by unfold maxLen; omega) (by omega) (by simp; omega) ?_; intro v' w5 hown' hgrow hnil; obtain ⟨pa', pn', pc', rfl⟩ := own_slice hown'; have kx := (((Only.refl (fun k => (Value.slice pa pn pc).ownBlock = some k) w3).alloc _).trans (Only.ofGrown hgrow)); have hL7 := (unhide hLL).keep kx (by intro hh; have := (ownsRow_block hown _ hh).1; omega); have hB7 := (unhide hBB).keep kx (by intro hh; exact absurd hh (unhide hBN)); have X := hide (And.intro hL7 (And.intro hown' (And.intro hgrow (And.intro kx hB7)))); clear hown' hgrow hnil kx l0 l1 l2 l3 k1 k2 k3; obtain ⟨l0, l1, l2, l3, k1, k2, k3⟩ := hL7; obtain ⟨x0, x1, x2, x3, x4, x5, z0, z1, z2, z3, z4, z5⟩ := hB7)
         obtain ⟨hL7, hown', hgrow, kx, hB7⟩ := unhide X
         have hTn := ToksAt.appended (t := ⟨6, false, [], 0, mn, mx⟩) (World.ownsRow.alloc hown _) (ToksOK.keep (w := w3) ((Only.refl (fun _ => False) w3).alloc _) (fun _ _ _ f => f) l cs htok) (PartsAt.nil _ _) hown' hgrow
         have hOn := (((unhide hOO).alloc _).grown hgrow (fun j hj => Or.inr (by have := (ownsRow_block hown j hj).1; omega)))
         have hq1 := hqf.1
         have hq2 := hqf.2.1
         go_roundw
         case rel => exact ⟨l ++ [⟨6, false, [], 0, mn, mx⟩], pa', pn', pc', op, false, st2, f, rfl, rfl, rfl, ho1, ho2, hTn, hL7, hOn, by have := kx.size; omega, hq2, by simp; omega, (fun h0 => ⟨hqf.2.2 h0, by simp; omega, hop0, hop1, by have := unhide Hfu; omega⟩), (by have := unhide Hfu; show 1 ≤ _; omega), HF2⟩
         case measure => rw [lexI_of hL7, lexI_of (unhide hLW), lexE_of hL7, lexE_of (unhide hLW), if_pos (unhide C1).2]; split <;> omega
     · have c4 : atom = false ∨ (atom = true ∧ (byteAt s st'.i == 42) = false ∧ (byteAt s st'.i == 43) = false ∧ (byteAt s st'.i == 63) = false ∧ (byteAt s st'.i == 123) = false) := by
         cases atom
         · exact .inl rfl
         · right; simp [Ref.quantB] at c3; simp; omega
       have C3 := hide c3
       clear c3
       by_cases c5 : byteAt s st'.i = 40 ∧ op = 10
       · have HH := hide ((unhide HF).trans (Ref.tokensF_deep (f := f) (l := l) (unhide C1) (unhide C3) c5))
         have d1 : (byteAt s st'.i == 40) = true := by simp [c5.1]
         have d2 : (op == 10) = true := by simp [c5.2]
         clear c5
         go_wp2_with fail
         refine (now_abs w.heap.size s st' _ (unhide hLL) hs).mono ?_
         rintro e w1 ⟨rfl, hON⟩
         have hL1 := (unhide hLL).keep hON (fun f => f)
         have hO1 := hide ((unhide hOO).trans hON)
         clear hON l0 l1 l2 l3 k1 k2 k3
         obtain ⟨l0, l1, l2, l3, k1, k2, k3⟩ := hL1
         rcases c4 with rfl | ⟨rfl, y1, y2, y3, y4⟩
         all_goals
           go_wp2_with fail
           go_ret3
           rw [unhide HH]
           exact ⟨_, rfl, ToksAt.nil _ _, unhide hO1⟩
       · have HF2 := hide ((unhide HF).trans (Ref.tokensF_tok (f := f) (l := l) (unhide C1) (unhide C3) c5))
         have htf := Ref.tokenF_fine (unhide HGi) hi
         have hk3 := Ref.tokenF_open (s := s) (st := st')
         have c6 : (byteAt s st'.i == 40) = false ∨ ((byteAt s st'.i == 40) = true ∧ (op == 10) = false) := by simp; omega
         have C5 := hide c5
         clear c5
         go_wp2_with fail
         refine (now_abs w.heap.size s st' _ (unhide hLL) hs).mono ?_
         rintro e w1 ⟨rfl, hON⟩
         have hL1 := (unhide hLL).keep hON (fun f => f)
         have hT1 := (unhide hTT).keep hON (fun _ _ _ f => f)
         have hO1 := (unhide hOO).trans hON
         have hsz1 := hON.size
         have hLL1 := hide hL1
         clear hON l0 l1 l2 l3 k1 k2 k3
         obtain ⟨l0, l1, l2, l3, k1, k2, k3⟩ := hL1
         have HTO := hide (And.intro hT1 hO1)
         clear hT1 hO1
         rcases c4 with rfl | ⟨rfl, y1, y2, y3, y4⟩
         all_goals
           rcases c6 with y5 | ⟨y5, y6⟩
         all_goals
           go_wp2_with fail
           refine (token_any w.heap.size s st' _ (unhide hLL1) hs hi (unhide HGi) (unhide C1).2).mono ?_
           rintro e w2 ⟨pv, rfl, hpt, hL5, hO5⟩
           have hT5 := (unhide HTO).1.keep hO5 (by intro g hg _ hh; unfold Mine at hh; omega)
           have hO6 := ((unhide HTO).2).young hO5 (Nat.le_refl _)
           have hlt5 : w.heap.size < w2.heap.size := hL5.lt
           have hpt' := PartsAt.base (base' := w.heap.size + 1) hpt (by omega)
           obtain ⟨qs, hq1, hq2⟩ := hpt
           obtain ⟨qa, qn, qc, rfl⟩ := own_slice hq1
           clear hq1 hq2
           generalize hq : Ref.tokenF s st' = q at *
           obtain ⟨⟨k, ng, pt, tc, mn, mx⟩, st2⟩ := q
           simp only [] at *
           have hk := (Only.refl (fun _ => False) w2).alloc (.cells #[.int .i64 k, .bool ng, .slice qa qn qc, .int .i64 tc, .int .i64 mn, .int .i64 mx] 178)
           have hbn : ¬ (Value.slice pa pn pc).ownBlock = some w2.heap.size := by
             intro hh; obtain ⟨cs, h1, _⟩ := hT5; have := (ownsRow_block h1 _ hh).2; omega
           have hBN := hide hbn
           have H3 := hide (And.intro (hL5.keep hk (fun f => f)) (And.intro (hT5.keep hk (fun _ _ _ f => f)) (And.intro (hO6.trans hk) (And.intro (hpt'.keep hk (fun _ _ _ f => f)) (Six.new (n := w2.heap.size) (a0 := .int .i64 k) (a1 := .bool ng) (a2 := .slice qa qn qc) (a3 := .int .i64 tc) (a4 := .int .i64 mn) (a5 := .int .i64 mx) w2 178 rfl)))))
           clear hk hbn hL5 hT5 hO5 hO6 hpt' hq l0 l1 l2 l3 k1 k2 k3
           go_upto_region 15 with fail
           generalize hw3 : w2.alloc (.cells #[.int .i64 k, .bool ng, .slice qa qn qc, .int .i64 tc, .int .i64 mn, .int .i64 mx] 178) = w3 at *
           obtain ⟨hL6, hT6, hO7, hP6, hB6⟩ := unhide H3
           clear hw3 H3
           have hLL := hide hL6
           have hBB := hide hB6
           have hOO := hide hO7
           have hPP := hide hP6
           have hsz3 : w2.heap.size < w3.heap.size := hB6.lt
           obtain ⟨cs, hown, htok⟩ := hT6
           obtain ⟨l0, l1, l2, l3, k1, k2, k3⟩ := hL6
           obtain ⟨t0, t1, t2, t3, t4, t5, v0, v1, v2, v3, v4, v5⟩ := hB6
           obtain ⟨i0, hi0, hz0, hz1, hz2⟩ := info_parts Tryz.infoTok
           have hll4 : l.length ≤ 500 := by omega
           have Hk3 := hide hk3
           have Htf := hide htf
           have hq2 := htf.1
           have hq3 := htf.2.2
           clear hO7 hP6 hk3 htf
           have hkc : ((k == 3) = true ∧ (k == 4) = false ∧ (k == 1) = false) ∨ ((k == 3) = false ∧ (k == 4) = true ∧ (k == 1) = false ∧ op - 1 < 0) ∨ ((k == 3) = false ∧ (k == 4) = true ∧ (k == 1) = false ∧ 0 ≤ op - 1) ∨ ((k == 3) = false ∧ (k == 4) = false ∧ (k == 1) = true) ∨ ((k == 3) = false ∧ (k == 4) = false ∧ (k == 1) = false) := by simp; omega
           have hTh := hide (And.intro hown htok)
           have HIi := hide (And.intro hi0 (And.intro hz0 (And.intro hz1 hz2)))
           clear hown htok hi0 hz0 hz1 hz2
           rcases hkc with ⟨m1, m2, m3⟩ | ⟨m1, m2, m3, m4⟩ | ⟨m1, m2, m3, m4⟩ | ⟨m1, m2, m3⟩ | ⟨m1, m2, m3⟩
         all_goals
           obtain ⟨hown, htok⟩ := unhide hTh
           obtain ⟨hi, hz0, hz1, hz2⟩ := unhide HIi
           go_wp2_with (at_builtin; refine wpList_append_own _ rfl _ _ 48 rfl (w.heap.size + 1) 178 i0 (.agg #[.int .i64 0, .bool false, .slice none 0 0, .int .i64 0, .int .i64 0, .int .i64 0]) 6 64 Tryz.underlying48 hi hz0 hz1 hz2 rfl (by decide) _ _ _ rfl (World.ownsRow.alloc hown _) _ 1 1 [.int .i64 k, .bool ng, .slice qa qn qc, .int .i64 tc, .int .i64 mn, .int .i64 mx] rfl rfl (cells_six_new _ _ _ _ _ _ _ _) (fun x hx => by simp at hx; rcases hx with rfl | rfl | rfl | rfl | rfl | rfl <;> rfl) (by unfold maxLen; omega) (by omega) (by simp; omega) ?_; intro v' w5 hown' hgrow hnil; obtain ⟨pa', pn', pc', rfl⟩ := own_slice hown'; have kx := (((Only.refl (fun k => (Value.slice pa pn pc).ownBlock = some k) w3).alloc _).trans (Only.ofGrown hgrow)); have hL7 := (unhide hLL).keep kx (by intro hh; have := (ownsRow_block hown _ hh).1; omega); have hB7 := (unhide hBB).keep kx (by intro hh; exact absurd hh (unhide hBN)); have X := hide (And.intro hL7 (And.intro hown' (And.intro hgrow (And.intro kx hB7)))); clear hown' hgrow hnil kx l0 l1 l2 l3 k1 k2 k3; obtain ⟨l0, l1, l2, l3, k1, k2, k3⟩ := hL7; obtain ⟨x0, x1, x2, x3, x4, x5, z0, z1, z2, z3, z4, z5⟩ := hB7)
         all_goals
           obtain ⟨hL7, hown', hgrow, kx, hB7⟩ := unhide X
           have hTn := ToksAt.appended (t := ⟨k, ng, pt, tc, mn, mx⟩) (World.ownsRow.alloc hown _) (ToksOK.keep (w := w3) ((Only.refl (fun _ => False) w3).alloc _) (fun _ _ _ f => f) l cs htok) ((unhide hPP).keep ((Only.refl (fun _ => False) w3).alloc _) (fun _ _ _ f => f)) hown' hgrow
           have hOn := (((unhide hOO).alloc _).grown hgrow (fun j hj => Or.inr (by have := (ownsRow_block hown j hj).1; omega)))
           have hop3 : (k == 3) = true → op ≤ 9 := fun m => by have a1 := unhide Hk3 (by simpa using m); have a2 := unhide C5; omega
           try (have hop9 := hop3 m1)
           have htf := unhide Htf
           have hsz9 := kx.size
           first
             | (refine (fail_lex w.heap.size s st2 3 _ _ hL7).mono ?_
                rintro e w6 ⟨rfl, hL8, hO8⟩
                have hB8 := hB7.keep hO8 (by unfold Mine; omega)
                have hX8 := hide (And.intro hL8 (And.intro (hTn.keep hO8 (by intro g hg _ hh; unfold Mine at hh; omega)) (hOn.young hO8 (Nat.le_refl _))))
                have hs8 := hO8.size
                clear hL8 hO8 x0 x1 x2 x3 x4 x5 z0 z1 z2 z3 z4 z5 l0 l1 l2 l3 k1 k2 k3
                obtain ⟨x0, x1, x2, x3, x4, x5, z0, z1, z2, z3, z4, z5⟩ := hB8
                go_wp2_with fail
                obtain ⟨hL8, hT8, hO9⟩ := unhide hX8
                have hne := Ref.fail_ne st2 3 (st'.i : Int) (by decide)
                go_roundw
                case rel => exact ⟨l ++ [⟨k, ng, pt, tc, mn, mx⟩], pa', pn', pc', _, _, st2.fail 3 st'.i, f, rfl, rfl, rfl, by omega, by omega, hT8, hL8, hO9, by omega, by rw [Ref.fail_i]; omega, by rw [Ref.fail_i]; simp; omega, (fun h0 => absurd h0 hne), (by have := unhide Hfu; show 1 ≤ _; omega), hide ((unhide HF2).trans (Ref.tk4n m1 m2 m3 m4))⟩
                case measure => rw [lexI_of hL8, lexI_of (unhide hLW), lexE_of hL8, lexE_of (unhide hLW), if_pos (unhide C1).2, if_neg hne, Ref.fail_i]; omega)
             | (go_roundw
                case rel => exact ⟨l ++ [⟨k, ng, pt, tc, mn, mx⟩], pa', pn', pc', _, _, st2, f, rfl, rfl, rfl, by omega, by omega, hTn, hL7, hOn, by omega, by omega, by simp; omega, (fun h0 => ⟨(htf.2.1 h0).2, by have := (htf.2.1 h0).1; simp; omega, by omega, by omega, by have := (htf.2.1 h0).1; have := unhide Hfu; omega⟩), (by have := unhide Hfu; show 1 ≤ _; omega), (by first
                   | exact hide ((unhide HF2).trans (Ref.tk3 m1 hop0))
                   | exact hide ((unhide HF2).trans (Ref.tk4 m1 m2 m3 m4))
                   | exact hide ((unhide HF2).trans (Ref.tk1 m1 m2 m3 hop0))
                   | exact hide ((unhide HF2).trans (Ref.tk0 m1 m2 m3 hop0)))⟩
                case measure =>
                  rw [lexI_of hL7, lexI_of (unhide hLW), lexE_of hL7, lexE_of (unhide hLW), if_pos (unhide C1).2]
                  by_cases h0 : st2.e = 0
                  · have := (htf.2.1 h0).1; rw [if_pos h0]; omega
                  · rw [if_neg h0]; omega)
   · have HH : Hid (Ref.tokensR s = (l, (if 0 < op then st'.fail 3 s.size else st').e, (if 0 < op then st'.fail 3 s.size else st').a)) := by rw [unhide HF]; exact Ref.tokensF_end c1
     have c2 : ¬ st'.i < s.size ∨ (st'.i < s.size ∧ (st'.e == 0) = false) := by
       by_cases hq : st'.i < s.size
       · exact .inr ⟨hq, by simp; intro h0; exact c1 ⟨hq, h0⟩⟩
       · exact .inl hq
     clear c1
     rcases c2 with c2 | ⟨c2, c3⟩
     case' inl => have c2d : decide ((st'.i : Int) < (s.size : Int)) = false := by simp; omega
     case' inr => have c2d : decide ((st'.i : Int) < (s.size : Int)) = true := by simp; omega
     all_goals
       by_cases hop : 0 < op
       · go_wp2_with fail
         refine (fail_lex w.heap.size s st' 3 _ _ (unhide hLL)).mono ?_
         rintro e w2 ⟨rfl, hL5, hO5⟩
         have HL5 := hide hL5
         have HO5 := hide hO5
         obtain ⟨m0, m1, m2, m3, j1, j2, j3⟩ := hL5
         clear hO5
         go_wp2_with fail
         go_quiet (fail)
         go_wp2_with fail
         go_ret3
         rw [unhide HH, if_pos hop]
         exact ⟨_, rfl, ((unhide hTT).keep (unhide HO5) (by intro g hg _ hh; unfold Mine at hh; omega)).keep ((Only.refl (fun _ => False) w2).drewN _) (fun _ _ _ f => f), (((unhide hOO).mono (Q := fun _ => False) (fun _ _ f => f)).young (unhide HO5) (Nat.le_refl _)).drewN _⟩
       · go_wp2_with fail
         go_quiet (fail)
         go_wp2_with fail
         go_ret3
         rw [unhide HH, if_neg (by omega)]
         exact ⟨_, rfl, (unhide hTT).keep ((Only.refl (fun _ => False) wr).drewN _) (fun _ _ _ f => f), (unhide hOO).drewN _⟩
end Go.Proofs.YtnagphodmfejiaaGreatDoor
namespace Go.Proofs.YtnagphodmfejiaaGreatDoor
open Go.RowKit
def TokRow (w : World) (g off : Nat) (l : List Tok) : Prop := ∀ (j : Nat) (t : Tok), l[j]? = some t → ∃ pa pn pc,
 w.cell? ⟨g, off + j * 6, none⟩ = some (.int .i64 t.kind) ∧ w.cell? ⟨g, off + j * 6 + 1, none⟩ = some (.bool t.neg) ∧ w.cell? ⟨g, off + j * 6 + 2, none⟩ = some (.slice pa pn pc) ∧
 w.cell? ⟨g, off + j * 6 + 3, none⟩ = some (.int .i64 t.c) ∧ w.cell? ⟨g, off + j * 6 + 4, none⟩ = some (.int .i64 t.mn) ∧ w.cell? ⟨g, off + j * 6 + 5, none⟩ = some (.int .i64 t.mx)
namespace Ref
def kindAt (l : List Tok) (k : Nat) : Int := match l[k]? with
 | some t => t.kind
 | none => 0
def closingF (l : List Tok) : Nat → Nat → Int → Int
 | 0, _, _ => (l.length : Int) - 1
 | f + 1, k, op => if k < l.length then (if turnO (kindAt l k) op = 0 then (k : Int) else closingF l f (k + 1) (turnO (kindAt l k) op)) else (l.length : Int) - 1
def closingR (l : List Tok) (i : Nat) : Int := closingF l (l.length + 1 - i) i 0
end Ref
theorem TokRow.kind {w : World} {g off : Nat} {l : List Tok} (h : TokRow w g off l) (k : Nat) (hk : k < l.length) : w.cell? ⟨g, off + k * 6, none⟩ = some (.int .i64 (Ref.kindAt l k)) := by
 obtain ⟨_, _, _, h0, _⟩ := h k l[k] (List.getElem?_eq_getElem hk)
 unfold Ref.kindAt; rw [List.getElem?_eq_getElem hk]; exact h0
set_option maxHeartbeats 800000 in
theorem closing_any (g off cap : Nat) (l : List Tok) (i : Nat) (w : World) (h : TokRow w g off l) (hl : l.length ≤ 1000) (_hc : l.length ≤ cap) (hi : i ≤ l.length) :
   Calls Tryz.prog 127 #[.slice (some ⟨g, off, none⟩) l.length cap, .int .i64 i] w fun x w' => x = .returned (.int .i64 (Ref.closingR l i)) ∧ w' = w := by
 have H := hide h
 clear h
 go_enter Tryz.func127, Tryz.ntmps127
 go_wp2_with fail
 go_loop [5, 6] (fun o k => ∃ (op : Int) (n f : Nat), o = .int .i64 op ∧ k = .int .i64 n ∧ n ≤ l.length ∧ -2000 - n ≤ op ∧ op ≤ n ∧ Hid (l.length < n + f) ∧ Hid (Ref.closingR l i = Ref.closingF l f n op)) (fun _ k => l.length - (intOf k).toNat)
 case atStart => exact ⟨0, i, l.length + 1 - i, rfl, rfl, hi, by omega, by omega, (by show _ < _; omega), rfl⟩
 case round =>
   obtain ⟨op, n, f, rfl, rfl, hn, ho1, ho2, hf, HF⟩ := hrel
   obtain ⟨f, rfl⟩ : ∃ f', f = f' + 1 := ⟨f - 1, by have := unhide hf; omega⟩
   by_cases hlt : n < l.length
   · have hkc := (unhide H).kind n hlt
     have hstep : Hid (Ref.closingR l i = if Ref.turnO (Ref.kindAt l n) op = 0 then (n : Int) else Ref.closingF l f (n + 1) (Ref.turnO (Ref.kindAt l n) op)) := by
       rw [unhide HF]; simp only [Ref.closingF]; rw [if_pos hlt]; rfl
     generalize hK : Ref.kindAt l n = K at *
     clear hK
     have hcs : ((K == 3) = true ∧ Ref.turnO K op = op + 1) ∨ ((K == 3) = false ∧ (K == 4) = true ∧ Ref.turnO K op = op - 1) ∨ ((K == 3) = false ∧ (K == 4) = false ∧ Ref.turnO K op = op) := by
       by_cases h3 : K = 3
       · left; simp [Ref.turnO, h3]
       · by_cases h4 : K = 4
         · right; left; simp [Ref.turnO, h4]
         · right; right; simp [Ref.turnO, h3, h4]
     rcases hcs with ⟨a1, a3⟩ | ⟨a1, a2, a3⟩ | ⟨a1, a2, a3⟩
     all_goals
       rw [a3] at hstep
       clear a3
     · by_cases hz : op + 1 = 0
       · have hz' : (op + 1 == 0) = true := by simp [hz]
         have HH : Hid (Ref.closingR l i = (n : Int)) := by rw [unhide hstep, if_pos hz]; rfl
         clear hz
         go_wp2_with fail
         go_ret
         exact ⟨ret_int (unhide HH).symm, rfl⟩
       · have hz' : (op + 1 == 0) = false := by simp [hz]
         have HH : Hid (Ref.closingR l i = Ref.closingF l f (n + 1) (op + 1)) := by rw [unhide hstep, if_neg hz]; rfl
         clear hz
         go_wp2_with fail
         go_round
         case rel => exact ⟨op + 1, n + 1, f, rfl, by go_num, by omega, by omega, by omega, (by have := unhide hf; show _ < _; omega), HH⟩
         case measure => simp [intOf]; omega
     · by_cases hz : op - 1 = 0
       · have hz' : (op - 1 == 0) = true := by simp; omega
         have HH : Hid (Ref.closingR l i = (n : Int)) := by rw [unhide hstep, if_pos hz]; rfl
         clear hz
         go_wp2_with fail
         go_ret
         exact ⟨ret_int (unhide HH).symm, rfl⟩
       · have hz' : (op - 1 == 0) = false := by simp; omega
         have HH : Hid (Ref.closingR l i = Ref.closingF l f (n + 1) (op - 1)) := by rw [unhide hstep, if_neg hz]; rfl
         clear hz
         go_wp2_with fail
         go_round
         case rel => exact ⟨op - 1, n + 1, f, rfl, by go_num, by omega, by omega, by omega, (by have := unhide hf; show _ < _; omega), HH⟩
         case measure => simp [intOf]; omega
     · by_cases hz : op = 0
       · have hz' : (op == 0) = true := by simp [hz]
         have HH : Hid (Ref.closingR l i = (n : Int)) := by rw [unhide hstep, if_pos hz]; rfl
         clear hz
         go_wp2_with fail
         go_ret
         exact ⟨ret_int (unhide HH).symm, rfl⟩
       · have hz' : (op == 0) = false := by simp [hz]
         have HH : Hid (Ref.closingR l i = Ref.closingF l f (n + 1) op) := by rw [unhide hstep, if_neg hz]; rfl
         clear hz
         go_wp2_with fail
         go_round
         case rel => exact ⟨op, n + 1, f, rfl, by go_num, by omega, by omega, by omega, (by have := unhide hf; show _ < _; omega), HH⟩
         case measure => simp [intOf]; omega
   · have HH : Hid (Ref.closingR l i = (l.length : Int) - 1) := by rw [unhide HF]; simp only [Ref.closingF]; rw [if_neg hlt]; rfl
     go_wp2_with fail
     go_ret
     exact ⟨ret_int (unhide HH).symm, rfl⟩
namespace Ref
def atomEnd (l : List Tok) (i : Nat) : Int := if kindAt l i = 3 then closingR l i + 1 else (i : Int) + 1
def atomNext (l : List Tok) (i : Nat) : Int := if atomEnd l i < l.length ∧ kindAt l (atomEnd l i).toNat = 6 then atomEnd l i + 1 else atomEnd l i
theorem closingF_bd (l : List Tok) : ∀ (f k : Nat) (op : Int), k ≤ l.length → 0 < l.length → 0 ≤ closingF l f k op ∧ closingF l f k op < l.length
 | 0, k, op, _, h => by simp only [closingF]; omega
 | f + 1, k, op, hk, h => by
   simp only [closingF]
   split
   · split
     · omega
     · exact closingF_bd l f (k + 1) _ (by omega) h
   · omega
end Ref
set_option maxHeartbeats 800000 in
theorem atom_any (g off cap : Nat) (l : List Tok) (i : Nat) (w : World) (h : TokRow w g off l) (hl : l.length ≤ 1000) (hc : l.length ≤ cap) (hi : i < l.length) :
   Calls Tryz.prog 73 #[.slice (some ⟨g, off, none⟩) l.length cap, .int .i64 i] w fun x w' => x = .returned (.tuple #[.int .i64 (Ref.atomEnd l i), .int .i64 (Ref.atomNext l i)]) ∧ w' = w := by
 have hk := h.kind i hi
 have H := hide h
 clear h
 by_cases h3 : Ref.kindAt l i = 3
 · have h3' : (Ref.kindAt l i == 3) = true := by simp [h3]
   have hcb := Ref.closingF_bd l (l.length + 1 - i) i 0 (by omega) (by omega)
   obtain ⟨C, hC⟩ : ∃ C : Nat, Ref.closingR l i = (C : Int) := ⟨(Ref.closingR l i).toNat, by unfold Ref.closingR; omega⟩
   have hC1 : C < l.length := by have : Ref.closingR l i < l.length := hcb.2; omega
   have HE : Hid (Ref.atomEnd l i = ((C + 1 : Nat) : Int)) := by show _ = _; unfold Ref.atomEnd; rw [if_pos h3, hC]; omega
   have HC := hide hC
   clear h3 hcb hC
   go_enter Tryz.func73, Tryz.ntmps73
   go_wp2_with fail
   refine (closing_any g off cap l i _ (unhide H) hl hc (by omega)).mono ?_
   rintro e w1 ⟨rfl, hw1⟩
   have hw2 := hw1.symm
   subst hw2
   clear hw1
   rw [unhide HC]
   by_cases hlt : C + 1 < l.length
   · have hk2 := (unhide H).kind (C + 1) hlt
     by_cases h6 : Ref.kindAt l (C + 1) = 6
     · have h6' : (Ref.kindAt l (C + 1) == 6) = true := by simp [h6]
       have HN : Hid (Ref.atomNext l i = ((C + 1 : Nat) : Int) + 1) := by
         show _ = _; unfold Ref.atomNext; rw [unhide HE, Int.toNat_natCast, if_pos ⟨by omega, h6⟩]
       clear h6
       go_wp2_with fail
       go_ret2
       rw [unhide HN, unhide HE]
       exact ⟨ret_two (by omega) (by omega), rfl⟩
     · have h6' : (Ref.kindAt l (C + 1) == 6) = false := by simp [h6]
       have HN : Hid (Ref.atomNext l i = ((C + 1 : Nat) : Int)) := by
         show _ = _; unfold Ref.atomNext; rw [unhide HE, Int.toNat_natCast, if_neg (by intro hh; exact h6 hh.2)]
       clear h6
       go_wp2_with fail
       go_ret2
       rw [unhide HN, unhide HE]
       exact ⟨ret_two (by omega) (by omega), rfl⟩
   · have HN : Hid (Ref.atomNext l i = ((C + 1 : Nat) : Int)) := by
       show _ = _; unfold Ref.atomNext; rw [unhide HE, if_neg (by omega)]
     go_wp2_with fail
     go_ret2
     rw [unhide HN, unhide HE]
     exact ⟨ret_two (by omega) (by omega), rfl⟩
 · have h3' : (Ref.kindAt l i == 3) = false := by simp [h3]
   have HE : Hid (Ref.atomEnd l i = ((i + 1 : Nat) : Int)) := by show _ = _; unfold Ref.atomEnd; rw [if_neg h3]; omega
   clear h3
   go_enter Tryz.func73, Tryz.ntmps73
   by_cases hlt : i + 1 < l.length
   · have hk2 := (unhide H).kind (i + 1) hlt
     by_cases h6 : Ref.kindAt l (i + 1) = 6
     · have h6' : (Ref.kindAt l (i + 1) == 6) = true := by simp [h6]
       have HN : Hid (Ref.atomNext l i = ((i + 1 : Nat) : Int) + 1) := by
         show _ = _; unfold Ref.atomNext; rw [unhide HE, Int.toNat_natCast, if_pos ⟨by omega, h6⟩]
       clear h6
       go_wp2_with fail
       go_ret2
       rw [unhide HN, unhide HE]
       exact ⟨ret_two (by omega) (by omega), rfl⟩
     · have h6' : (Ref.kindAt l (i + 1) == 6) = false := by simp [h6]
       have HN : Hid (Ref.atomNext l i = ((i + 1 : Nat) : Int)) := by
         show _ = _; unfold Ref.atomNext; rw [unhide HE, Int.toNat_natCast, if_neg (by intro hh; exact h6 hh.2)]
       clear h6
       go_wp2_with fail
       go_ret2
       rw [unhide HN, unhide HE]
       exact ⟨ret_two (by omega) (by omega), rfl⟩
   · have HN : Hid (Ref.atomNext l i = ((i + 1 : Nat) : Int)) := by
       show _ = _; unfold Ref.atomNext; rw [unhide HE, if_neg (by omega)]
     go_wp2_with fail
     go_ret2
     rw [unhide HN, unhide HE]
     exact ⟨ret_two (by omega) (by omega), rfl⟩
end Go.Proofs.YtnagphodmfejiaaGreatDoor
