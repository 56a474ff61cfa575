/- The sets of a pattern's leaves: plain. Looking a character up in rising spans: plain. The reader beside the lexer: what an atom's tokens add, with its quantifier. The reader beside the lexer: a term. The reader beside the lexer: terms, alternatives, groups; the whole. -/
import Derived.Test.YtnagphodmfejiaaGreatDoorKEqFSetA
import Derived.Test.YtnagphodmfejiaaGreatDoorKSemETrI
namespace Go.Proofs.YtnagphodmfejiaaGreatDoor
open Sm (Tree)
namespace Cs
open Eqv (inSp inPt inShort anyRS tkTree)
def leafP (T : Tree) (c : Int) : Bool := isCh c && tkTree T c
def shortP (a c : Int) : Bool := isCh c && inShort a c
def lineL : List (Int × Int) := [(10, 10), (13, 13), (8232, 8233)]
def wordM : List (Int × Int) := [(97, 122), (65, 90), (48, 57), (95, 95)]
theorem wordM_in (c : Int) : inSp wordM c = inSp Ref.wordL c := by
 rw [Bool.eq_iff_iff, inSp_iff, inSp_iff]
 simp only [wordM, Ref.wordL, List.mem_cons, List.not_mem_nil, or_false]
 constructor
 · rintro ⟨x, rfl | rfl | rfl | rfl, h⟩
   · exact ⟨(97, 122), by simp, h⟩
   · exact ⟨(65, 90), by simp, h⟩
   · exact ⟨(48, 57), by simp, h⟩
   · exact ⟨(95, 95), by simp, h⟩
 · rintro ⟨x, rfl | rfl | rfl | rfl, h⟩
   · exact ⟨(48, 57), by simp, h⟩
   · exact ⟨(65, 90), by simp, h⟩
   · exact ⟨(95, 95), by simp, h⟩
   · exact ⟨(97, 122), by simp, h⟩
theorem word_P (c : Int) : (isCh c && inSp wordM c) = shortP 119 c := by
 unfold shortP inShort inPt Ref.setL
 rw [if_neg (by omega), if_pos (by omega)]
 simp [wordM_in]
theorem digit_P (c : Int) : (isCh c && inSp [(48, 57)] c) = shortP 100 c := by
 unfold shortP inShort inPt Ref.setL
 rw [if_pos (by omega)]
 simp [Ref.digitL]
theorem blank_P (c : Int) : (isCh c && inSp Ref.blankL c) = shortP 115 c := by
 unfold shortP inShort inPt Ref.setL
 rw [if_neg (by omega), if_neg (by omega), if_pos (by omega)]
 simp
theorem upper_P {a b : Int} (h : (a = 100 ∧ b = 68) ∨ (a = 119 ∧ b = 87) ∨ (a = 115 ∧ b = 83)) (c : Int) : (isCh c && !shortP a c) = shortP b c := by
 unfold shortP inShort inPt Ref.setL
 rcases h with ⟨rfl, rfl⟩ | ⟨rfl, rfl⟩ | ⟨rfl, rfl⟩
 · cases isCh c <;> cases inSp Ref.digitL c <;> simp_all
 · cases isCh c <;> cases inSp Ref.wordL c <;> simp_all
 · cases isCh c <;> cases inSp Ref.blankL c <;> simp_all
theorem any_P (c : Int) : (isCh c && !(isCh c && inSp lineL c)) = leafP Pro.tAny c := by
 unfold leafP tkTree
 rw [if_pos (by rfl)]
 show _ = (isCh c && !inSp lineL c)
 cases isCh c <;> simp
theorem char_P (a c : Int) : (isCh c && inSp [(a, a)] c) = leafP (Pro.tChar a) c := by
 unfold leafP tkTree
 rw [if_neg (by simp [Pro.tChar]), if_pos (by rfl), Eqv.inSp_one]
 rfl
theorem short_P (a c : Int) : shortP a c = leafP (Pro.tShort a) c := by
 unfold leafP tkTree shortP
 rw [if_neg (by simp [Pro.tShort]), if_neg (by simp [Pro.tShort]), if_pos (by rfl)]
 rfl
theorem members_P {R : List (Int × Int)} {S : List Int} {ms : List (Int × Int)} (hm : ∀ c, inSp ms c = (S.any fun a => shortP a c)) (c : Int) : (isCh c && inSp (R ++ ms) c) = (isCh c && anyRS R S c) := by
 rw [inSp_append, hm]
 unfold anyRS shortP
 cases h : isCh c
 · rfl
 · simp
theorem class_P (neg : Bool) (R : List (Int × Int)) (S : List Int) (c : Int) : leafP (Pro.tCls neg R S) c = (isCh c && (anyRS R S c != neg)) := by
 unfold leafP tkTree
 rw [if_neg (by simp [Pro.tCls]), if_neg (by simp [Pro.tCls]), if_neg (by simp [Pro.tCls]), if_pos (by rfl)]
 rfl
theorem class_not (R : List (Int × Int)) (S : List Int) (c : Int) : (isCh c && !(isCh c && anyRS R S c)) = leafP (Pro.tCls true R S) c := by
 rw [class_P]
 cases isCh c <;> cases anyRS R S c <;> rfl
theorem class_yes (R : List (Int × Int)) (S : List Int) (c : Int) : (isCh c && anyRS R S c) = leafP (Pro.tCls false R S) c := by
 rw [class_P]
 cases isCh c <;> cases anyRS R S c <;> rfl
end Cs
end Go.Proofs.YtnagphodmfejiaaGreatDoor
namespace Go.Proofs.YtnagphodmfejiaaGreatDoor
namespace Cs
open Eqv (inSp)
theorem Rising.at {sp : List (Int × Int)} (h : Rising sp) {i : Nat} {x : Int × Int} (hx : sp[i]? = some x) : okS x := h.2 x (List.mem_of_getElem? hx)
theorem Rising.lt {sp : List (Int × Int)} (h : Rising sp) {i j : Nat} {x y : Int × Int} (hx : sp[i]? = some x) (hy : sp[j]? = some y) (hij : i < j) : x.2 + 1 < y.1 := by
 obtain ⟨hi, rfl⟩ := List.getElem?_eq_some_iff.1 hx
 obtain ⟨hj, rfl⟩ := List.getElem?_eq_some_iff.1 hy
 exact List.pairwise_iff_getElem.1 h.1 i j hi hj hij
end Cs
end Go.Proofs.YtnagphodmfejiaaGreatDoor
namespace Go.Proofs.YtnagphodmfejiaaGreatDoor
open Go.RowKit
namespace Eqv
variable {s : ByteArray} {L : List (Int × Int)}
theorem mul_ge {a b : Int} (ha : 1 ≤ a) (hb : 301 ≤ b) : 301 ≤ a * b := by
 have := Int.mul_le_mul_of_nonneg_right ha (show (0 : Int) ≤ b by omega)
 omega
theorem qsize_same {k v mn mx : Int} (hk : 0 ≤ k) (hv0 : 0 ≤ v) (hv1 : v ≤ 301) (h : min k 301 = min v 301) (h0 : 0 ≤ mn) (h1 : -1 ≤ mx) (h2 : mx = -1 ∨ mn ≤ mx) : 0 ≤ Ref.qsize k mn mx ∧ min (Ref.qsize k mn mx) 301 = min (Pro.repS v mn mx) 301 := by
 have hnn : ∀ z : Int, 0 ≤ z → Ref.qsize z mn mx = Pro.repS z mn mx := by
   intro z hz
   unfold Ref.qsize Pro.repS
   by_cases hm : mx = -1
   · rw [if_pos (by omega), if_pos hm]
     by_cases h0' : mn = 0
     · rw [if_pos h0', h0']; rfl
     · rw [if_neg h0', show max mn 1 = mn by omega]
   · rw [if_neg (by omega), if_neg hm]
 have hr0 : 0 ≤ Pro.repS k mn mx := Pro.repS_nn hk h0 h2
 rw [hnn k hk]
 refine ⟨hr0, ?_⟩
 by_cases he : k = v
 · rw [he]
 · have hk1 : 301 ≤ k := by omega
   have hv2 : 301 ≤ v := by omega
   have big : ∀ z : Int, 301 ≤ z → Pro.repS z mn mx = 0 ∧ mn = 0 ∧ mx = 0 ∨ 301 ≤ Pro.repS z mn mx := by
     intro z hz
     unfold Pro.repS
     by_cases hm : mx = -1
     · right
       rw [if_pos hm]
       have := mul_ge (a := max mn 1) (b := z) (by omega) hz
       omega
     · rw [if_neg hm]
       by_cases h0' : mn = 0
       · by_cases h00 : mx = 0
         · left; subst h0'; subst h00; simp
         · right
           have := mul_ge (a := mx - mn) (b := z + 1) (by omega) (by omega)
           rw [h0'] at this ⊢
           omega
       · right
         have := mul_ge (a := mn) (b := z) (by omega) hz
         have h3 : 0 ≤ (mx - mn) * (z + 1) := Int.mul_nonneg (by omega) (by omega)
         omega
   rcases big k hk1 with ⟨a1, a2, a3⟩ | a1 <;> rcases big v hv2 with ⟨b1, b2, b3⟩ | b1
   · rw [a1, b1]
   · rw [a2, a3] at b1; unfold Pro.repS at b1; simp at b1
   · rw [b2, b3] at a1; unfold Pro.repS at a1; simp at a1
   · omega
theorem tokB0 {t : Tok} (h1 : t.mn = 0) (h2 : t.mx = 0) : Ref.TokB t := by unfold Ref.TokB; omega
def AtomOK (ts : List Tok) (v : Int) : Prop := Ref.Bal ts ∧ Ref.headKind ts ≠ 6 ∧ ts ≠ [] ∧ Ref.AddsTo ts v ∧ ∀ q : Tok, q.kind = 6 → 0 ≤ q.mn → -1 ≤ q.mx → (q.mx = -1 ∨ q.mn ≤ q.mx) → Ref.AddsTo (ts ++ [q]) (min (Pro.repS v q.mn q.mx) 301)
theorem AtomOK.one {t : Tok} (h1 : t.kind = 1) (hb : Ref.TokB t) : AtomOK [t] 1 := by
 refine ⟨Ref.Bal.one (by omega) (by omega) hb, ?_, by simp, Ref.AddsTo.one (by omega) (by omega), ?_⟩
 · show t.kind ≠ 6; omega
 · intro q h6 a b c
   have hq := qsize_same (k := 1) (v := 1) (by omega) (by omega) (by omega) rfl a b c
   have hr := Pro.repS_nn (z := 1) (by omega) a c
   exact (Ref.AddsTo.oneQ (t := t) (q := q) (by omega) (by omega) h6 hq.1).weak (by omega) hq.1 (by omega)
theorem AtomOK.group {o c : Tok} {ts : List Tok} {v : Int} (ho : o.kind = 3) (hc : c.kind = 4) (hbo : Ref.TokB o) (hbc : Ref.TokB c) (hB : Ref.Bal ts) (h : Ref.AddsTo ts v) (hv0 : 0 ≤ v) (hv1 : v ≤ 301) : AtomOK (o :: ts ++ [c]) v := by
 refine ⟨hB.group ho hc hbo hbc, ?_, by simp, Ref.AddsTo.group ho hc hB h hv0, ?_⟩
 · show o.kind ≠ 6; omega
 · intro q h6 a b e
   have hr := Pro.repS_nn (z := v) hv0 a e
   have := Ref.AddsTo.groupQ (w := min (Pro.repS v q.mn q.mx) 301) ho hc h6 hB h (by omega) (fun k hk hkv => by have := qsize_same hk hv0 hv1 hkv a b e; exact ⟨this.1, by omega⟩)
   rw [show o :: ts ++ [c] ++ [q] = o :: ts ++ [c, q] by simp]
   exact this
theorem loop_fault {f : Nat} {l : List Tok} {op : Int} {atom : Bool} {st : St} (h : st.e ≠ 0) : ∃ l', Ref.tokensF s f l op atom st = (l', st.e, st.a) := by
 cases f with
 | zero => exact ⟨l, rfl⟩
 | succ f =>
   rw [Ref.tokensF_end (fun hh => h hh.2)]
   refine ⟨l, ?_⟩
   split
   · rw [fail_nz h]
   · rfl
def Goes (s : ByteArray) (L : List (Int × Int)) (f : Nat) (l : List Tok) (op : Int) (atom : Bool) (p : Nat) (o : Pro.Out) (P : List Tok → Prop) : Prop :=
 (o.k ≠ 0 → ∃ l', Ref.tokensF s f l op atom (st0 p) = (l', (o.k : Int), o.p)) ∧
 (o.k = 0 → ∃ ts f' p' atom', Ref.tokensF s f l op atom (st0 p) = Ref.tokensF s f' (l ++ ts) op atom' (st0 p') ∧ Br s L o.n p' ∧ s.size < p' + f' ∧ (atom' = true → Ref.quantB (byteAt s p') = false) ∧ P ts)
def TermP (v : Int) (ts : List Tok) : Prop := Ref.Bal ts ∧ Ref.AddsTo ts v ∧ Ref.headKind ts ≠ 6
theorem quant_step {f : Nat} {l : List Tok} {op : Int} {n p : Nat} {at' : List Tok} {v : Int} (h : Br s L n p) (hf : s.size < p + f) (hA : AtomOK at' v) (hv0 : 0 ≤ v) (hv1 : v ≤ 301) {A : Pro.Out} (hk : A.k = 0) (hn : A.n = n) (hv : A.v = v) :
   Goes s L f (l ++ at') op true p (if (Pro.quantO L (s.size : Nat) A.n).1 = false then A else if (Pro.quantO L (s.size : Nat) A.n).2.1.k ≠ 0 then (Pro.quantO L (s.size : Nat) A.n).2.1 else Pro.good (min (Pro.repS A.v (Pro.quantO L (s.size : Nat) A.n).2.1.v (Pro.quantO L (s.size : Nat) A.n).2.2) 301) (Pro.lazyN L (Pro.quantO L (s.size : Nat) A.n).2.1.n)) (fun ts => ts = [] ∧ (if (Pro.quantO L (s.size : Nat) A.n).1 = false then True else False) ∨ ∃ q : Tok, ts = [q] ∧ Ref.AddsTo (at' ++ [q]) (min (Pro.repS v (Pro.quantO L (s.size : Nat) A.n).2.1.v (Pro.quantO L (s.size : Nat) A.n).2.2) 301) ∧ Ref.Bal [q] ∧ (Pro.quantO L (s.size : Nat) A.n).1 = true ∧ q.kind = 6 ∧ q.mn = (Pro.quantO L (s.size : Nat) A.n).2.1.v ∧ q.mx = (Pro.quantO L (s.size : Nat) A.n).2.2) := by
 subst hv
 rw [hn]
 cases hq : Ref.quantB (byteAt s p)
 · have hqn := quant_none h hq
   rw [hqn]
   simp only [if_true]
   exact ⟨fun hh => absurd hk hh, fun _ => ⟨[], f, p, true, by rw [List.append_nil], by rw [hn]; exact h, hf, fun _ => hq, .inl ⟨rfl, trivial⟩⟩⟩
 · obtain ⟨hq1, hqs⟩ := quant_same h hq
   have hqc := Ref.quantB_cases hq
   have hlt : p < s.size := (byteAt_nonneg s p).1 (by omega)
   obtain ⟨f, rfl⟩ : ∃ f', f = f' + 1 := ⟨f - 1, by omega⟩
   have hstep := Ref.tokensF_quant (s := s) (f := f) (l := l ++ at') (op := op) (atom := true) (st := st0 p) ⟨hlt, rfl⟩ ⟨rfl, hq⟩
   rw [if_neg (by simp [hq1])]
   by_cases hk2 : (Pro.quantO L (s.size : Nat) n).2.1.k = 0
   · obtain ⟨a1, a2, a3, a4⟩ := hqs.1 hk2
     have hvb := Pro.quantO_v (L := L) (len := (s.size : Nat)) n hq1 hk2
     rw [if_neg (by simp [hk2])]
     refine ⟨fun hh => absurd rfl hh, fun _ => ⟨[⟨6, false, [], 0, (Ref.quantF s (st0 p)).1, (Ref.quantF s (st0 p)).2.1⟩], f, (Ref.quantF s (st0 p)).2.2.i, false, ?_, a4, ?_, (fun hh => by cases hh), .inr ⟨_, rfl, ?_, Ref.Bal.one (show (6 : Int) ≠ 3 by decide) (show (6 : Int) ≠ 4 by decide) ⟨by show 0 ≤ (Ref.quantF s (st0 p)).1; rw [a1]; exact hvb.1, by show (Ref.quantF s (st0 p)).1 ≤ 100; rw [a1]; exact hvb.2.1, by show -1 ≤ (Ref.quantF s (st0 p)).2.1; rw [a2]; exact hvb.2.2.1, by show (Ref.quantF s (st0 p)).2.1 ≤ 100; rw [a2]; exact hvb.2.2.2.1, by show (Ref.quantF s (st0 p)).2.1 = -1 ∨ (Ref.quantF s (st0 p)).1 ≤ (Ref.quantF s (st0 p)).2.1; rw [a1, a2]; exact hvb.2.2.2.2⟩, hq1, rfl, a1, a2⟩⟩⟩
     · rw [hstep, ← a3]
     · have := (Ref.quantF_fine (s := s) (st := st0 p) h.good hq).1
       have hi : (st0 p).i = p := rfl
       omega
     · have := hA.2.2.2.2 ⟨6, false, [], 0, (Ref.quantF s (st0 p)).1, (Ref.quantF s (st0 p)).2.1⟩ rfl (by show 0 ≤ (Ref.quantF s (st0 p)).1; rw [a1]; exact hvb.1) (by show -1 ≤ (Ref.quantF s (st0 p)).2.1; rw [a2]; exact hvb.2.2.1) (by show (Ref.quantF s (st0 p)).2.1 = -1 ∨ (Ref.quantF s (st0 p)).1 ≤ (Ref.quantF s (st0 p)).2.1; rw [a1, a2]; exact hvb.2.2.2.2)
       have e1 : ({ kind := 6, neg := false, parts := [], c := 0, mn := (Ref.quantF s (st0 p)).1, mx := (Ref.quantF s (st0 p)).2.1 } : Tok).mn = (Pro.quantO L (s.size : Nat) n).2.1.v := a1
       have e2 : ({ kind := 6, neg := false, parts := [], c := 0, mn := (Ref.quantF s (st0 p)).1, mx := (Ref.quantF s (st0 p)).2.1 } : Tok).mx = (Pro.quantO L (s.size : Nat) n).2.2 := a2
       rw [e1, e2] at this
       exact this
   · have he := hqs.2 hk2
     rw [if_pos hk2]
     refine ⟨fun _ => ?_, fun hh => absurd hh hk2⟩
     obtain ⟨l', hl⟩ := loop_fault (s := s) (f := f) (l := l ++ at' ++ [⟨6, false, [], 0, (Ref.quantF s (st0 p)).1, (Ref.quantF s (st0 p)).2.1⟩]) (op := op) (atom := false) (st := (Ref.quantF s (st0 p)).2.2) (by rw [he.1]; omega)
     exact ⟨l', by rw [hstep, hl, he.1, he.2]⟩
end Eqv
end Go.Proofs.YtnagphodmfejiaaGreatDoor
namespace Go.Proofs.YtnagphodmfejiaaGreatDoor
open Go.RowKit
open Sm (Tree)
namespace Eqv
variable {s : ByteArray} {L : List (Int × Int)}
def asSign (a : Int) : Int := if a = 0 then 94 else if a = 1 then 36 else if a = 2 then 98 else 66
section
variable (A : List Tok → Tree → Prop)
def TokS : List Tok → List Tree → Prop
 | ts, [] => ts = []
 | ts, t :: r => ∃ a b, ts = a ++ b ∧ A a t ∧ TokS b r
def TokP : List Tok → List Tree → Prop
 | ts, [] => ts = []
 | ts, t :: r => ∃ a b bar, ts = a ++ bar :: b ∧ bar.kind = 5 ∧ t.kind = 6 ∧ TokS A a t.kids ∧ TokP b r
def TokC (ts : List Tok) (kids : List Tree) : Prop := ∃ pre fin init last, ts = pre ++ fin ∧ kids = init ++ [last] ∧ TokP A pre init ∧ last.kind = 6 ∧ TokS A fin last.kids
end
def TokA : Nat → List Tok → Tree → Prop
 | 0, _, _ => False
 | f + 1, ts, T =>
   (T.kind = 0 ∧ 0 ≤ T.a ∧ T.a ≤ 3 ∧ ∃ t, ts = [t] ∧ t.kind = 2 ∧ t.c = asSign T.a ∧ t.parts = []) ∨ (∃ t, ts = [t] ∧ t.kind = 1 ∧ LeafTok t T) ∨
   (T.kind = 5 ∧ ∃ o c us, ts = o :: us ++ [c] ∧ o.kind = 3 ∧ c.kind = 4 ∧ Ref.Bal us ∧ TokC (TokA f) us T.kids) ∨
   (T.kind = 7 ∧ ∃ us q, ts = us ++ [q] ∧ q.kind = 6 ∧ q.mn = T.a ∧ q.mx = T.b ∧ (T.kid.kind = 5 ∨ leafK T.kid) ∧ TokA f us T.kid)
section
variable {A B : List Tok → Tree → Prop}
theorem TokS.mono (h : ∀ a t, A a t → B a t) : ∀ (ts : List Tok) (l : List Tree), TokS A ts l → TokS B ts l
 | _, [], e => e
 | _, _ :: r, ⟨a, b, e, h1, h2⟩ => ⟨a, b, e, h _ _ h1, TokS.mono h b r h2⟩
theorem TokP.mono (h : ∀ a t, A a t → B a t) : ∀ (ts : List Tok) (l : List Tree), TokP A ts l → TokP B ts l
 | _, [], e => e
 | _, _ :: r, ⟨a, b, bar, e, h0, h1, h2, h3⟩ => ⟨a, b, bar, e, h0, h1, TokS.mono h a _ h2, TokP.mono h b r h3⟩
theorem TokC.mono (h : ∀ a t, A a t → B a t) {ts : List Tok} {l : List Tree} : TokC A ts l → TokC B ts l
 | ⟨pre, fin, init, last, h1, h2, h3, h4, h5⟩ => ⟨pre, fin, init, last, h1, h2, TokP.mono h _ _ h3, h4, TokS.mono h _ _ h5⟩
theorem TokA.up : ∀ (f g : Nat) (ts : List Tok) (T : Tree), f ≤ g → TokA f ts T → TokA g ts T
 | 0, _, _, _, _, h => h.elim
 | f + 1, 0, _, _, hg, _ => by omega
 | f + 1, g + 1, ts, T, hg, h => by
   rcases h with h | h | ⟨h1, o, c, us, h2, h3, h4, h5, h6⟩ | ⟨h1, us, q, h2, h3, h4, h5, h6, h7⟩
   · exact .inl h
   · exact .inr (.inl h)
   · exact .inr (.inr (.inl ⟨h1, o, c, us, h2, h3, h4, h5, TokC.mono (fun a t ha => TokA.up f g a t (by omega) ha) h6⟩))
   · exact .inr (.inr (.inr ⟨h1, us, q, h2, h3, h4, h5, h6, TokA.up f g us T.kid (by omega) h7⟩))
end
def GroupGoes (s : ByteArray) (L : List (Int × Int)) (op : Int) (D : Nat → Pro.Out) (F : Nat) (DT : Nat → Tree) : Prop := ∀ (f : Nat) (l : List Tok) (atom : Bool) (n p : Nat), Br s L n p → s.size < p + f → byteAt s p = 40 →
 ((D n).k ≠ 0 → ∃ l', Ref.tokensF s f l op atom (st0 p) = (l', ((D n).k : Int), (D n).p)) ∧
 ((D n).k = 0 → ∃ ts f' p', Ref.tokensF s f l op atom (st0 p) = Ref.tokensF s f' (l ++ ts) op true (st0 p') ∧ Br s L (D n).n p' ∧ s.size < p' + f' ∧ AtomOK ts (D n).v ∧ (DT n).kind = 5 ∧ TokA F ts (DT n))
theorem no_q {atom : Bool} {p : Nat} (hA : atom = true → Ref.quantB (byteAt s p) = false) : ¬ (atom = true ∧ Ref.quantB (byteAt s (st0 p).i) = true) := fun hh => by
 have e1 := hA hh.1
 have e2 : Ref.quantB (byteAt s p) = true := hh.2
 rw [e1] at e2
 cases e2
theorem tok_step {f : Nat} {l : List Tok} {op : Int} {atom : Bool} {p : Nat} (hlt : p < s.size) (hA : atom = true → Ref.quantB (byteAt s p) = false) (h40 : byteAt s p ≠ 40) (hop : 0 ≤ op) (h1 : (Ref.tokenF s (st0 p)).1.kind = 1) :
   Ref.tokensF s (f + 1) l op atom (st0 p) = Ref.tokensF s f (l ++ [(Ref.tokenF s (st0 p)).1]) op true (Ref.tokenF s (st0 p)).2 := by
 rw [Ref.tokensF_tok (st := st0 p) ⟨hlt, rfl⟩ (no_q hA) (fun hh => h40 hh.1), h1]
 have e1 : Ref.turnO 1 op = op := by unfold Ref.turnO; simp
 rw [e1, if_neg (by omega)]
 rfl
theorem one_leafK (m : Bool) (c : Int) : leafK (Pro.oneT m c) := by
 cases m
 · exact ⟨by show 1 ≤ 2; decide, by show 2 ≤ 4; decide⟩
 · exact ⟨by show 1 ≤ 3; decide, by show 3 ≤ 4; decide⟩
theorem out_ne {o : Pro.Out} {v : Int} {st : St} (h : Same s L o v st) (hk : o.k ≠ 0) : st.e ≠ 0 := by rw [(h.2 hk).1]; omega
theorem atom_goes (hs4 : s.size ≤ 400) {op : Int} {D : Nat → Pro.Out} {F : Nat} {DT : Nat → Tree} (hD : GroupGoes s L op D (F + 1) DT) (hop : 0 ≤ op) {f : Nat} {l : List Tok} {atom : Bool} {n p : Nat} (h : Br s L n p) (hf : s.size < p + f) (hlt : p < s.size) (hA : atom = true → Ref.quantB (byteAt s p) = false) (hstop : byteAt s p ≠ 124 ∧ byteAt s p ≠ 41) (has : Pro.asN L n = 0) :
   ((Pro.atomO L (s.size : Nat) D n).k ≠ 0 → ∃ l', Ref.tokensF s f l op atom (st0 p) = (l', ((Pro.atomO L (s.size : Nat) D n).k : Int), (Pro.atomO L (s.size : Nat) D n).p)) ∧
   ((Pro.atomO L (s.size : Nat) D n).k = 0 → ∃ ts f' p', Ref.tokensF s f l op atom (st0 p) = Ref.tokensF s f' (l ++ ts) op true (st0 p') ∧ Br s L (Pro.atomO L (s.size : Nat) D n).n p' ∧ s.size < p' + f' ∧ AtomOK ts (Pro.atomO L (s.size : Nat) D n).v ∧ ((Pro.atomT L (s.size : Nat) DT n).kind = 5 ∨ leafK (Pro.atomT L (s.size : Nat) DT n)) ∧ TokA (F + 1) ts (Pro.atomT L (s.size : Nat) DT n)) := by
 have hi : (st0 p).i = p := rfl
 have hb0 := (byteAt_nonneg s p).2 hlt
 have e94 := h.eqv 94 (by omega)
 have e36 := h.eqv 36 (by omega)
 have e92 := h.eqv 92 (by omega)
 have e40 := h.eqv 40 (by omega)
 have e91 := h.eqv 91 (by omega)
 have n94 : byteAt s p ≠ 94 ∧ byteAt s p ≠ 36 := by
   unfold Pro.asN at has
   by_cases hh : Pro.letAt L n = 94 ∨ Pro.letAt L n = 36
   · rw [if_pos hh] at has; cases has
   · exact ⟨fun e => hh (.inl (e94.2 e)), fun e => hh (.inr (e36.2 e))⟩
 have nbB : ¬ (byteAt s p = 92 ∧ (byteAt s (p + 1) = 98 ∨ byteAt s (p + 1) = 66)) := by
   rintro ⟨k1, k2⟩
   have h1 := h.go k1 (by omega) (by omega)
   unfold Pro.asN at has
   rw [if_neg (by rw [e92.2 k1]; omega), if_pos ⟨e92.2 k1, by rcases k2 with k | k; exact .inl ((h1.eqv 98 (by omega)).2 k); exact .inr ((h1.eqv 66 (by omega)).2 k)⟩] at has
   cases has
 have hw : Pro.wrongL (Pro.letAt L n) = Ref.wrongB (byteAt s p) := by
   unfold Pro.wrongL Ref.wrongB
   rcases h.alike with ⟨e, _⟩ | ⟨a, b⟩
   · rw [e]
   · have q : ∀ k : Int, k < 128 → (Pro.letAt L n == k) = false ∧ (byteAt s p == k) = false := fun k hk => ⟨by simp; omega, by simp; omega⟩
     rw [(q 42 (by omega)).1, (q 43 (by omega)).1, (q 63 (by omega)).1, (q 123 (by omega)).1, (q 125 (by omega)).1, (q 93 (by omega)).1, (q 42 (by omega)).2, (q 43 (by omega)).2, (q 63 (by omega)).2, (q 123 (by omega)).2, (q 125 (by omega)).2, (q 93 (by omega)).2]
 obtain ⟨f, rfl⟩ : ∃ f', f = f' + 1 := ⟨f - 1, by omega⟩
 by_cases k40 : byteAt s p = 40
 · have hwf : Pro.wrongL (Pro.letAt L n) = false := by rw [hw, k40]; decide
   have e : Pro.atomO L (s.size : Nat) D n = D n := by unfold Pro.atomO; rw [if_neg (by simp [hwf]), if_pos (e40.2 k40)]
   have eT : Pro.atomT L (s.size : Nat) DT n = DT n := by unfold Pro.atomT; rw [if_pos (e40.2 k40)]
   rw [e, eT]
   obtain ⟨d1, d2⟩ := hD (f + 1) l atom n p h hf k40
   refine ⟨d1, fun hk => ?_⟩
   obtain ⟨ts, f', p', d3, d4, d5, d6, d7, d8⟩ := d2 hk
   exact ⟨ts, f', p', d3, d4, d5, d6, .inl d7, d8⟩
 · have m40 : ¬ Pro.letAt L n = 40 := fun hh => k40 (e40.1 hh)
   cases hwb : Ref.wrongB (byteAt s p)
   · have hwf : ¬ Pro.wrongL (Pro.letAt L n) = true := by rw [hw, hwb]; simp
     by_cases k91 : byteAt s p = 91
     · have h1 := h.go k91 (by omega) (by omega)
       have e : Pro.atomO L (s.size : Nat) D n = Pro.one (Pro.classP L (s.size : Nat) n) := by unfold Pro.atomO; rw [if_neg hwf, if_neg m40, if_pos (e91.2 k91)]
       have et : Ref.tokenF s (st0 p) = (⟨1, Ref.notB s (st0 (p + 1)), (Ref.classR s (st0 (p + 1))).1, 0, 0, 0⟩, (Ref.classR s (st0 (p + 1))).2) := by
         unfold Ref.tokenF; rw [hi, if_neg (by omega), if_neg nbB, if_neg (by omega), if_neg (by omega), if_pos k91, go0]
       have hst := tok_step (f := f) (l := l) hlt hA k40 hop (by rw [et])
       have hcs : Same s L (Pro.classP L (s.size : Nat) n) 1 (Ref.classR s (st0 (p + 1))).2 := by
         unfold Pro.classP Ref.classR Ref.classSt Ref.notB
         have hi1 : (st0 (p + 1)).i = p + 1 := rfl
         rw [hi1]
         by_cases k94 : byteAt s (p + 1) = 94
         · have h2 := h1.go k94 (by omega) (by omega)
           have := h2.le
           have := h2.good.le
           rw [if_pos ((h1.eqv 94 (by omega)).2 k94), if_pos (by simp [k94]), go0]
           exact class_same _ _ [] (n + 2) (p + 1 + 1) h2 (by omega) (by show s.size < p + 1 + 1 + (s.size + 1 - (p + 1 + 1)); omega)
         · have := h1.le
           have := h1.good.le
           rw [if_neg (fun hh => k94 ((h1.eqv 94 (by omega)).1 hh)), if_neg (by simp [k94])]
           exact class_same _ _ [] (n + 1) (p + 1) h1 (by omega) (by show s.size < p + 1 + (s.size + 1 - (p + 1)); omega)
       have eT : Pro.atomT L (s.size : Nat) DT n = Pro.classT L (s.size : Nat) n := by unfold Pro.atomT; rw [if_neg m40, if_pos (e91.2 k91)]
       rw [e, hst, et, Pro.one_k, Pro.one_n, eT]
       by_cases hk : (Pro.classP L (s.size : Nat) n).k = 0
       · obtain ⟨a1, a2, _, a4⟩ := hcs.1 hk
         refine ⟨fun hh => absurd hk hh, fun _ => ⟨_, f, (Ref.classR s (st0 (p + 1))).2.i, by rw [← st_eta a1 a2], a4, ?_, by rw [Pro.one_v _ hk]; exact AtomOK.one rfl (tokB0 rfl rfl), .inr (show leafK _ from ⟨by show 1 ≤ 4; decide, by show 4 ≤ 4; decide⟩), .inr (.inl ⟨_, rfl, rfl, ⟨by show 1 ≤ 4; decide, by show 4 ≤ 4; decide⟩, fun c => ?_, by
           show (Ref.classR s (st0 (p + 1))).1.length ≤ 1000
           have hb := (classF_bd (s := s) (s.size + 1 - (Ref.classSt s (st0 (p + 1))).i) [] (Ref.classSt s (st0 (p + 1))) (fun p hp => by cases hp)).2
           show (Ref.classF s (s.size + 1 - (Ref.classSt s (st0 (p + 1))).i) [] (Ref.classSt s (st0 (p + 1)))).1.length ≤ 1000
           simp at hb
           omega, (classF_bd (s := s) (s.size + 1 - (Ref.classSt s (st0 (p + 1))).i) [] (Ref.classSt s (st0 (p + 1))) (fun p hp => by cases hp)).1⟩)⟩⟩
         rotate_left
         · show (anyPt (Ref.classR s (st0 (p + 1))).1 c != Ref.notB s (st0 (p + 1))) = tkTree (Pro.classT L (s.size : Nat) n) c
           have hcc : anyPt (Ref.classR s (st0 (p + 1))).1 c = anyRS (Pro.classT L (s.size : Nat) n).rs (Pro.classT L (s.size : Nat) n).ss c := by
             unfold Pro.classP at hk
             unfold Ref.classR Ref.classSt Ref.notB Pro.classT
             have hi1 : (st0 (p + 1)).i = p + 1 := rfl
             rw [hi1]
             by_cases k94 : byteAt s (p + 1) = 94
             · have h2 := h1.go k94 (by omega) (by omega)
               have := h2.le
               have := h2.good.le
               rw [if_pos ((h1.eqv 94 (by omega)).2 k94)] at hk
               simp only [if_pos ((h1.eqv 94 (by omega)).2 k94)]
               rw [if_pos (by simp [k94]), go0]
               exact class_tree _ _ [] [] [] (n + 2) (p + 1 + 1) h2 (by omega) (by show s.size < p + 1 + 1 + (s.size + 1 - (p + 1 + 1)); omega) hk (fun _ => rfl) c
             · have := h1.le
               have := h1.good.le
               have n94' : ¬ Pro.letAt L (n + 1) = 94 := fun hh => k94 ((h1.eqv 94 (by omega)).1 hh)
               rw [if_neg n94'] at hk
               simp only [if_neg n94']
               rw [if_neg (by simp [k94])]
               exact class_tree _ _ [] [] [] (n + 1) (p + 1) h1 (by omega) (by show s.size < p + 1 + (s.size + 1 - (p + 1)); omega) hk (fun _ => rfl) c
           have hng : Ref.notB s (st0 (p + 1)) = (Pro.classT L (s.size : Nat) n).neg := by
             show decide (byteAt s (p + 1) = 94) = decide (Pro.letAt L (n + 1) = 94)
             exact decide_eq_decide.2 ((h1.eqv 94 (by omega)).symm)
           rw [hcc, hng]
           rfl
         have hgt : p < (Ref.classR s (st0 (p + 1))).2.i := by
           by_cases hh : p < (Ref.classR s (st0 (p + 1))).2.i
           · exact hh
           · exfalso
             have := br_mono h a4 (by omega)
             have := Pro.classP_in (L := L) (len := (s.size : Nat)) n (h.lt.2 hlt)
             omega
         omega
       · have he := hcs.2 hk
         obtain ⟨l', hl⟩ := loop_fault (s := s) (f := f) (l := l ++ [⟨1, Ref.notB s (st0 (p + 1)), (Ref.classR s (st0 (p + 1))).1, 0, 0, 0⟩]) (op := op) (atom := true) (out_ne hcs hk)
         have e1 : Pro.one (Pro.classP L (s.size : Nat) n) = Pro.classP L (s.size : Nat) n := by unfold Pro.one; rw [if_neg hk]
         exact ⟨fun _ => ⟨l', by rw [hl, he.1, he.2, e1]⟩, fun hh => absurd hh hk⟩
     · by_cases k92 : byteAt s p = 92
       · have e : Pro.atomO L (s.size : Nat) D n = Pro.one (Pro.escO L (s.size : Nat) n) := by unfold Pro.atomO; rw [if_neg hwf, if_neg m40, if_neg (fun hh => k91 (e91.1 hh)), if_pos (e92.2 k92)]
         have et : Ref.tokenF s (st0 p) = (⟨1, false, [(Ref.escapeF s false (st0 p)).1], 0, 0, 0⟩, (Ref.escapeF s false (st0 p)).2.2) := by
           unfold Ref.tokenF; rw [hi, if_neg (by omega), if_neg nbB, if_neg (by omega), if_neg (by omega), if_neg k91, if_pos k92]
         have hst := tok_step (f := f) (l := l) hlt hA k40 hop (by rw [et])
         have hcs := (esc_same false h k92 (fun hh => by cases hh)).1
         have eT : Pro.atomT L (s.size : Nat) DT n = Pro.oneT (Pro.setB (Pro.letAt L (n + 1))) (Pro.escO L (s.size : Nat) n).v := by unfold Pro.atomT; rw [if_neg m40, if_neg (fun hh => k91 (e91.1 hh)), if_pos (e92.2 k92)]
         rw [e, hst, et, Pro.one_k, Pro.one_n, eT]
         by_cases hk : (Pro.escO L (s.size : Nat) n).k = 0
         · obtain ⟨a1, a2, _, a4⟩ := hcs.1 hk
           refine ⟨fun hh => absurd hk hh, fun _ => ⟨_, f, (Ref.escapeF s false (st0 p)).2.2.i, by rw [← st_eta a1 a2], a4, ?_, by rw [Pro.one_v _ hk]; exact AtomOK.one rfl (tokB0 rfl rfl), .inr (one_leafK _ _), .inr (.inl ⟨_, rfl, rfl, one_leafK _ _, fun c => ?_, by show 1 ≤ 1000; decide, fun p hp => by
             have hp : p ∈ [(Ref.escapeF s false (st0 _)).1] := hp
             simp at hp; subst hp; exact escapeF_bd false _⟩)⟩⟩
           rotate_left
           · show (anyPt [(Ref.escapeF s false (st0 p)).1] c != false) = _
             have e0 : anyPt [(Ref.escapeF s false (st0 p)).1] c = inPt (Ref.escapeF s false (st0 p)).1 c := by unfold anyPt; simp
             rw [e0]
             cases hset : Pro.setB (Pro.letAt L (n + 1))
             · have h2 := (esc_same false h k92 (fun hh => by cases hh)).2 hk
               have h3 : (Ref.escapeF s false (st0 p)).2.1 = true := by rw [h2.1, hset]; rfl
               rw [h2.2 h3, inPt_pos, inSp_one]
               simp [tkTree, Pro.oneT, Pro.tChar]
               rfl
             · rw [esc_many false h k92 hset]
               simp [tkTree, Pro.oneT, Pro.tShort, inShort]
               rfl
           have hgt : p < (Ref.escapeF s false (st0 p)).2.2.i := by
             by_cases hh : p < (Ref.escapeF s false (st0 p)).2.2.i
             · exact hh
             · exfalso
               have := br_mono h a4 (by omega)
               have := Pro.escO_in (L := L) (len := (s.size : Nat)) n (h.lt.2 hlt)
               omega
           omega
         · have he := hcs.2 hk
           obtain ⟨l', hl⟩ := loop_fault (s := s) (f := f) (l := l ++ [⟨1, false, [(Ref.escapeF s false (st0 p)).1], 0, 0, 0⟩]) (op := op) (atom := true) (out_ne hcs hk)
           have e1 : Pro.one (Pro.escO L (s.size : Nat) n) = Pro.escO L (s.size : Nat) n := by unfold Pro.one; rw [if_neg hk]
           exact ⟨fun _ => ⟨l', by rw [hl, he.1, he.2, e1]⟩, fun hh => absurd hh hk⟩
       · have e : Pro.atomO L (s.size : Nat) D n = Pro.good 1 (n + 1) := by unfold Pro.atomO; rw [if_neg hwf, if_neg m40, if_neg (fun hh => k91 (e91.1 hh)), if_neg (fun hh => k92 (e92.1 hh))]
         rw [e]
         refine ⟨fun hh => absurd rfl hh, fun _ => ?_⟩
         by_cases k46 : byteAt s p = 46
         · have et : Ref.tokenF s (st0 p) = (⟨1, true, [⟨false, [(10, 10), (13, 13), (8232, 8233)]⟩], 0, 0, 0⟩, st0 (p + 1)) := by
             unfold Ref.tokenF; rw [hi, if_neg (by omega), if_neg nbB, if_neg (by omega), if_pos k46, go0]
           have hst := tok_step (f := f) (l := l) hlt hA k40 hop (by rw [et])
           rw [et] at hst
           have eT : Pro.atomT L (s.size : Nat) DT n = Pro.tAny := by unfold Pro.atomT; rw [if_neg m40, if_neg (fun hh => k91 (e91.1 hh)), if_neg (fun hh => k92 (e92.1 hh)), if_pos ((h.eqv 46 (by omega)).2 k46)]
           rw [eT]
           exact ⟨_, f, p + 1, hst, h.go k46 (by omega) (by omega), by omega, AtomOK.one rfl (tokB0 rfl rfl), .inr ⟨Nat.le_refl 1, by show 1 ≤ 4; decide⟩, .inr (.inl ⟨_, rfl, rfl, ⟨Nat.le_refl 1, by show 1 ≤ 4; decide⟩, fun c => by simp [tkTok, anyPt, inPt_pos, tkTree, Pro.tAny], by show 1 ≤ 1000; decide, fun p hp => by simp at hp; subst hp; simp⟩)⟩
         · obtain ⟨k, c, ho, hg, hn⟩ := h.step hlt
           have et : Ref.tokenF s (st0 p) = (⟨1, false, [⟨false, [(c, c)]⟩], 0, 0, 0⟩, st0 (p + k)) := by
             unfold Ref.tokenF; rw [hi, if_neg (by omega), if_neg nbB, if_neg (by omega), if_neg k46, if_neg k91, if_neg k92, if_neg k40, if_neg hstop.2, if_neg (by simp [hwb]), ho]; rfl
           have hst := tok_step (f := f) (l := l) hlt hA k40 hop (by rw [et])
           rw [et] at hst
           have := Ref.oneF_bd ho
           have hl := (h.letter hlt ho).1
           have eT : Pro.atomT L (s.size : Nat) DT n = Pro.tChar c := by unfold Pro.atomT; rw [if_neg m40, if_neg (fun hh => k91 (e91.1 hh)), if_neg (fun hh => k92 (e92.1 hh)), if_neg (fun hh => k46 ((h.eqv 46 (by omega)).1 hh)), hl]
           rw [eT]
           exact ⟨_, f, p + k, hst, hn, by omega, AtomOK.one rfl (tokB0 rfl rfl), .inr ⟨by show 1 ≤ 2; decide, by show 2 ≤ 4; decide⟩, .inr (.inl ⟨_, rfl, rfl, ⟨by show 1 ≤ 2; decide, by show 2 ≤ 4; decide⟩, fun c' => by simp [tkTok, anyPt, inPt_pos, inSp_one, tkTree, Pro.tChar]; rfl, by show 1 ≤ 1000; decide, fun p hp => by simp at hp; subst hp; simp⟩)⟩
   · have e : Pro.atomO L (s.size : Nat) D n = Pro.bad 3 (Pro.placeAt L (s.size : Nat) n) n := by unfold Pro.atomO; rw [if_pos (by rw [hw]; exact hwb)]
     have hwc : byteAt s p = 42 ∨ byteAt s p = 43 ∨ byteAt s p = 63 ∨ byteAt s p = 123 ∨ byteAt s p = 125 ∨ byteAt s p = 93 := by unfold Ref.wrongB at hwb; simp at hwb; omega
     have et : Ref.tokenF s (st0 p) = (⟨0, false, [], 0, 0, 0⟩, ⟨p, 3, p⟩) := by
       unfold Ref.tokenF; rw [hi, if_neg (by omega), if_neg nbB, if_neg (by omega), if_neg (by omega), if_neg (by omega), if_neg (by omega), if_neg k40, if_neg hstop.2, if_pos hwb, fail0]
     rw [e]
     refine ⟨fun _ => ?_, fun hh => absurd hh (by simp [Pro.bad])⟩
     rw [Ref.tokensF_tok (st := st0 p) ⟨hlt, rfl⟩ (no_q hA) (fun hh => k40 hh.1), et]
     have e1 : Ref.turnO 0 op = op := by unfold Ref.turnO; simp
     simp only []
     rw [e1, if_neg (by omega)]
     obtain ⟨l', hl⟩ := loop_fault (s := s) (f := f) (l := l ++ [⟨0, false, [], 0, 0, 0⟩]) (op := op) (atom := ((0 : Int) == 1) || ((0 : Int) == 4)) (st := ⟨p, 3, p⟩) (show (3 : Int) ≠ 0 by decide)
     exact ⟨l', by rw [hl]; show (l', (3 : Int), (p : Int)) = (l', ((3 : Nat) : Int), Pro.placeAt L (s.size : Nat) n); rw [h.place]; rfl⟩
end Eqv
end Go.Proofs.YtnagphodmfejiaaGreatDoor
namespace Go.Proofs.YtnagphodmfejiaaGreatDoor
open Go.RowKit
open Sm (Tree)
namespace Eqv
variable {s : ByteArray} {L : List (Int × Int)}
theorem term_goes (hs4 : s.size ≤ 400) {op : Int} {D : Nat → Pro.Out} {F : Nat} {DT : Nat → Tree} (hD : GroupGoes s L op D (F + 1) DT) (hDO : Pro.DOK L D) (hop : 0 ≤ op) {f : Nat} {l : List Tok} {atom : Bool} {n p : Nat} (h : Br s L n p) (hf : s.size < p + f) (hlt : p < s.size) (hA : atom = true → Ref.quantB (byteAt s p) = false) (hstop : byteAt s p ≠ 124 ∧ byteAt s p ≠ 41) :
   Goes s L f l op atom p (Pro.termO L (s.size : Nat) D n) (fun ts => TermP (Pro.termO L (s.size : Nat) D n).v ts ∧ TokA (F + 2) ts (Pro.termT L (s.size : Nat) D DT n)) := by
 have hi : (st0 p).i = p := rfl
 have hb0 := (byteAt_nonneg s p).2 hlt
 by_cases has : Pro.asN L n = 0
 · obtain ⟨g1, g2⟩ := atom_goes hs4 hD hop (l := l) h hf hlt hA hstop has
   have hin := Pro.atomO_in (len := (s.size : Nat)) hDO n (h.lt.2 hlt)
   by_cases hk : (Pro.atomO L (s.size : Nat) D n).k = 0
   · obtain ⟨ts, f1, p1, e1, b1, hf1, hok, hkd, htok⟩ := g2 hk
     have hvb := hin.2.2 hk
     have hq := quant_step (s := s) (L := L) (l := l) (op := op) b1 hf1 hok hvb.2.1 hvb.2.2 hk rfl rfl
     have et : Pro.termO L (s.size : Nat) D n = (if (Pro.quantO L (s.size : Nat) (Pro.atomO L (s.size : Nat) D n).n).1 = false then Pro.atomO L (s.size : Nat) D n else if (Pro.quantO L (s.size : Nat) (Pro.atomO L (s.size : Nat) D n).n).2.1.k ≠ 0 then (Pro.quantO L (s.size : Nat) (Pro.atomO L (s.size : Nat) D n).n).2.1 else Pro.good (min (Pro.repS (Pro.atomO L (s.size : Nat) D n).v (Pro.quantO L (s.size : Nat) (Pro.atomO L (s.size : Nat) D n).n).2.1.v (Pro.quantO L (s.size : Nat) (Pro.atomO L (s.size : Nat) D n).n).2.2) 301) (Pro.lazyN L (Pro.quantO L (s.size : Nat) (Pro.atomO L (s.size : Nat) D n).n).2.1.n)) := by
       unfold Pro.termO; rw [if_neg (by simp [has]), if_neg (by simp [hk])]
     rw [et]
     refine ⟨fun hh => by rw [e1]; exact hq.1 hh, fun hh => ?_⟩
     obtain ⟨us, f2, p2, at2, e2, b2, hf2, ha2, hP⟩ := hq.2 hh
     refine ⟨ts ++ us, f2, p2, at2, by rw [e1, e2, List.append_assoc], b2, hf2, ha2, ?_⟩
     rcases hP with ⟨rfl, hq0⟩ | ⟨q, rfl, hadd, hbq, hq1, hq6, hqn, hqx⟩
     · have hq0' : (Pro.quantO L (s.size : Nat) (Pro.atomO L (s.size : Nat) D n).n).1 = false := by
         by_cases hx : (Pro.quantO L (s.size : Nat) (Pro.atomO L (s.size : Nat) D n).n).1 = false
         · exact hx
         · rw [if_neg hx] at hq0; exact hq0.elim
       have eT : Pro.termT L (s.size : Nat) D DT n = Pro.atomT L (s.size : Nat) DT n := by unfold Pro.termT; rw [if_neg (by simp [has]), if_pos hq0']
       rw [if_pos hq0', List.append_nil, eT]
       exact ⟨⟨hok.1, hok.2.2.2.1, hok.2.1⟩, TokA.up _ _ _ _ (by omega) htok⟩
     · have hk2 : ¬ (Pro.quantO L (s.size : Nat) (Pro.atomO L (s.size : Nat) D n).n).2.1.k ≠ 0 := fun hx => by
         rw [if_neg (by simp [hq1]), if_pos hx] at hh
         exact hx hh
       have eT : Pro.termT L (s.size : Nat) D DT n = Pro.tRep (Pro.atomT L (s.size : Nat) DT n) (Pro.quantO L (s.size : Nat) (Pro.atomO L (s.size : Nat) D n).n).2.1.v (Pro.quantO L (s.size : Nat) (Pro.atomO L (s.size : Nat) D n).n).2.2 := by unfold Pro.termT; rw [if_neg (by simp [has]), if_neg (by simp [hq1])]
       rw [if_neg (by simp [hq1]), if_neg hk2, eT]
       refine ⟨⟨hok.1.append hbq, hadd, ?_⟩, .inr (.inr (.inr ⟨rfl, ts, q, rfl, hq6, hqn, hqx, hkd, htok⟩))⟩
       have h2 := hok.2.1
       have h3 := hok.2.2.1
       cases ts with
       | nil => exact absurd rfl h3
       | cons t r => exact h2
   · have et : Pro.termO L (s.size : Nat) D n = Pro.atomO L (s.size : Nat) D n := by unfold Pro.termO; rw [if_neg (by simp [has]), if_pos hk]
     rw [et]
     exact ⟨g1, fun hh => absurd hh hk⟩
 · have et : Pro.termO L (s.size : Nat) D n = Pro.good 1 (n + Pro.asN L n) := by unfold Pro.termO; rw [if_pos has]
   rw [et]
   refine ⟨fun hh => absurd rfl hh, fun _ => ?_⟩
   obtain ⟨f, rfl⟩ : ∃ f', f = f' + 1 := ⟨f - 1, by omega⟩
   have hs : ∃ t k, Ref.tokenF s (st0 p) = (t, st0 (p + k)) ∧ (t.kind = 2 ∧ Ref.TokB t) ∧ Br s L (n + Pro.asN L n) (p + k) ∧ 1 ≤ k ∧ byteAt s p ≠ 40 ∧ 0 ≤ Pro.asV L n ∧ Pro.asV L n ≤ 3 ∧ t.c = asSign (Pro.asV L n) ∧ t.parts = [] := by
     unfold Pro.asN at has ⊢
     by_cases h1 : Pro.letAt L n = 94 ∨ Pro.letAt L n = 36
     · rw [if_pos h1]
       have h1' : byteAt s p = 94 ∨ byteAt s p = 36 := by rcases h1 with k | k; exact .inl ((h.eqv 94 (by omega)).1 k); exact .inr ((h.eqv 36 (by omega)).1 k)
       refine ⟨⟨2, false, [], byteAt s p, 0, 0⟩, 1, ?_, ⟨rfl, tokB0 rfl rfl⟩, h.next (by omega) (by omega), by omega, by omega, ?_⟩
       · unfold Ref.tokenF; rw [hi, if_pos h1', go0]
       · show 0 ≤ Pro.asV L n ∧ Pro.asV L n ≤ 3 ∧ byteAt s p = asSign (Pro.asV L n) ∧ ([] : List Pt) = []
         unfold Pro.asV
         rcases h1 with k | k
         · rw [if_pos k]; exact ⟨by decide, by decide, (h.eqv 94 (by omega)).1 k, rfl⟩
         · rw [if_neg (by omega), if_pos k]; exact ⟨by decide, by decide, (h.eqv 36 (by omega)).1 k, rfl⟩
     · rw [if_neg h1] at has ⊢
       by_cases h2 : Pro.letAt L n = 92 ∧ (Pro.letAt L (n + 1) = 98 ∨ Pro.letAt L (n + 1) = 66)
       · rw [if_pos h2]
         have k1 := (h.eqv 92 (by omega)).1 h2.1
         have hb := h.go k1 (by omega) (by omega)
         have k2 : byteAt s (p + 1) = 98 ∨ byteAt s (p + 1) = 66 := by rcases h2.2 with k | k; exact .inl ((hb.eqv 98 (by omega)).1 k); exact .inr ((hb.eqv 66 (by omega)).1 k)
         refine ⟨⟨2, false, [], byteAt s (p + 1), 0, 0⟩, 2, ?_, ⟨rfl, tokB0 rfl rfl⟩, hb.next (by omega) (by omega), by omega, by omega, ?_⟩
         · unfold Ref.tokenF; rw [hi, if_neg (by omega), if_pos ⟨k1, k2⟩, go0]
         · show 0 ≤ Pro.asV L n ∧ Pro.asV L n ≤ 3 ∧ byteAt s (p + 1) = asSign (Pro.asV L n) ∧ ([] : List Pt) = []
           unfold Pro.asV
           rw [if_neg (by omega), if_neg (by omega)]
           by_cases k : Pro.letAt L (n + 1) = 98
           · rw [if_pos k]; exact ⟨by decide, by decide, (hb.eqv 98 (by omega)).1 k, rfl⟩
           · rw [if_neg k]; exact ⟨by decide, by decide, (hb.eqv 66 (by omega)).1 (by rcases h2.2 with q | q; exact absurd q k; exact q), rfl⟩
       · rw [if_neg h2] at has; exact absurd rfl has
   obtain ⟨t, k, et2, ⟨hk2, htb⟩, hb, hk1, h40, hv0, hv3, htc, htp⟩ := hs
   have eT : Pro.termT L (s.size : Nat) D DT n = Pro.tAsr (Pro.asV L n) := by unfold Pro.termT; rw [if_pos has]
   rw [eT]
   refine ⟨[t], f, p + k, false, ?_, hb, by omega, (fun hh => by cases hh), ⟨Ref.Bal.one (by omega) (by omega) htb, Ref.AddsTo.one (by omega) (by omega), by show t.kind ≠ 6; omega⟩, .inl ⟨rfl, hv0, hv3, t, rfl, hk2, htc, htp⟩⟩
   rw [Ref.tokensF_tok (st := st0 p) ⟨hlt, rfl⟩ (no_q hA) (fun hh => h40 hh.1), et2]
   simp only []
   rw [hk2]
   have e1 : Ref.turnO 2 op = op := by unfold Ref.turnO; simp
   rw [e1, if_neg (by omega)]
   rfl
theorem stop_same {n p : Nat} (h : Br s L n p) : Pro.stopB L n = true ↔ (¬ p < s.size ∨ byteAt s p = 124 ∨ byteAt s p = 41) := by
 have e1 := h.eqv 124 (by omega)
 have e2 := h.eqv 41 (by omega)
 have e3 := h.lt
 unfold Pro.stopB
 simp only [Bool.or_eq_true, decide_eq_true_eq]
 constructor
 · rintro ((k | k) | k)
   · exact .inl (fun hh => by have := e3.2 hh; omega)
   · exact .inr (.inl (e1.1 k))
   · exact .inr (.inr (e2.1 k))
 · rintro (k | k | k)
   · exact .inl (.inl (Nat.le_of_not_lt (fun hh => k (e3.1 hh))))
   · exact .inl (.inr (e1.2 k))
   · exact .inr (e2.2 k)
theorem terms_goes (hs4 : s.size ≤ 400) {op : Int} {D : Nat → Pro.Out} {F : Nat} {DT : Nat → Tree} (hD : GroupGoes s L op D (F + 1) DT) (hDO : Pro.DOK L D) (hop : 0 ≤ op) : ∀ (g f : Nat) (l : List Tok) (v : Int) (atom : Bool) (n p : Nat), Br s L n p → s.size < p + f → L.length < n + g → (atom = true → Ref.quantB (byteAt s p) = false) → 0 ≤ v → v ≤ 301 →
   Goes s L f l op atom p (Pro.termsO L (s.size : Nat) D g v n) (fun ts => (Ref.Bal ts ∧ Ref.headKind ts ≠ 6 ∧ ∀ us, Ref.AddsTo us v → Ref.AddsTo (us ++ ts) (Pro.termsO L (s.size : Nat) D g v n).v) ∧ ∃ new, (∀ zs, Pro.termsT L (s.size : Nat) D DT g zs n = zs ++ new) ∧ TokS (TokA (F + 2)) ts new) ∧ ((Pro.termsO L (s.size : Nat) D g v n).k = 0 → Pro.stopB L (Pro.termsO L (s.size : Nat) D g v n).n = true)
 | 0, f, l, v, atom, n, p, h, hf, hg, hA, hv0, hv1 => by have := h.le; omega
 | g + 1, f, l, v, atom, n, p, h, hf, hg, hA, hv0, hv1 => by
   simp only [Pro.termsO]
   by_cases hs : Pro.stopB L n = true
   · rw [if_pos hs]
     exact ⟨⟨fun hh => absurd rfl hh, fun _ => ⟨[], f, p, atom, by rw [List.append_nil], h, hf, hA, ⟨Ref.Bal.nil, by decide, fun us hu => by rw [List.append_nil]; exact hu⟩, [], fun zs => by simp only [Pro.termsT]; rw [if_pos hs, List.append_nil], rfl⟩⟩, fun _ => hs⟩
   · rw [if_neg hs]
     have hns := fun hh => hs ((stop_same h).2 hh)
     have hlt : p < s.size := Classical.byContradiction fun hh => hns (.inl hh)
     have ht := term_goes hs4 hD hDO hop (l := l) h hf hlt hA ⟨fun hh => hns (.inr (.inl hh)), fun hh => hns (.inr (.inr hh))⟩
     have hin := Pro.termO_in (len := (s.size : Nat)) hDO n (h.lt.2 hlt)
     by_cases hk : (Pro.termO L (s.size : Nat) D n).k = 0
     · rw [if_neg (by simp [hk])]
       obtain ⟨ts, f1, p1, at1, e1, b1, hf1, ha1, ⟨hB, hadd, hh6⟩, htok⟩ := ht.2 hk
       have hvb := hin.2.2 hk
       obtain ⟨r1, r2⟩ := terms_goes hs4 hD hDO hop g f1 (l ++ ts) (min (v + (Pro.termO L (s.size : Nat) D n).v) 301) at1 _ p1 b1 hf1 (by omega) ha1 (by omega) (by omega)
       refine ⟨⟨fun hh => by rw [e1]; exact r1.1 hh, fun hh => ?_⟩, r2⟩
       obtain ⟨us, f2, p2, at2, e2, b2, hf2, ha2, ⟨hB2, h62, hadd2⟩, new, hnew, htoks⟩ := r1.2 hh
       refine ⟨ts ++ us, f2, p2, at2, by rw [e1, e2, List.append_assoc], b2, hf2, ha2, ⟨hB.append hB2, ?_, fun ws hw => ?_⟩, Pro.termT L (s.size : Nat) D DT n :: new, fun zs => ?_, ts, us, rfl, htok, htoks⟩
       · cases ts with
         | nil => exact h62
         | cons t r => exact hh6
       · rw [← List.append_assoc]
         exact hadd2 (ws ++ ts) (hw.append hadd hv0 hvb.2.1 hh6)
       · simp only [Pro.termsT]; rw [if_neg hs, hnew, List.append_assoc]; rfl
     · rw [if_pos hk]
       exact ⟨⟨ht.1, fun hh => absurd hh hk⟩, fun hh => absurd hh hk⟩
end Eqv
end Go.Proofs.YtnagphodmfejiaaGreatDoor
