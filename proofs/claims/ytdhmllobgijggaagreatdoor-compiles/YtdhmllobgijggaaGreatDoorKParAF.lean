/- Parts in memory, by their sizes; a row that grows apart from them. The plain reader: groups, atoms, terms, alternatives. The program's assertions and the beginnings of its groups. The program's atoms. The program's terms. The program's terms one behind the other. -/
import Derived.Test.YtdhmllobgijggaaGreatDoorKProMR
import Derived.ArgAppend
import Derived.OwnWalk
namespace Go.Proofs.YtdhmllobgijggaaGreatDoor
open Go.RowKit

/-- 'append' on a slice of one's own: it stays in its block, or goes to a new one. -/
theorem append_sep {P : Program} (w : World) {ops : Array Oper} {rest : List Oper} {o : Oper} {a : Act} {Q : Exit → Act → World → Prop} (hgd : o.guard = none) (s x : Operand) (t : TypeId)
    (ho : o.op = .call { callee := .builtin .append, args := #[s, x], argTypes := #[t, t] })
    (base : Nat) (e : TypeId) (i : TypeInfo) (z : Value) (size bytes : Nat) (ht : P.underlying t = some (.slice e)) (hi : P.info? e = some i) (hz : i.zero = some z)
    (hsize : i.size = size) (hby : i.bytes = bytes) (hzs : z.cells.size = size) (hsz : 0 < size)
    (v : Value) (n : Nat) (xs : List Value) (hs : a.eval s = v) (hown : w.ownsRow base e size v n xs)
    (ad : Addr) (m c : Nat) (news : List Value) (hx : a.eval x = .slice (some ad) m c) (hl : news.length = m * size) (hnews : ∀ j u, news[j]? = some u → w.cell? (ad.add j) = some u) (h1 : ∀ u ∈ news, u.oneCell' = true)
    (h63 : n + m ≤ maxLen) (hbytes : (n + m) * bytes ≤ 140737488355328) (hbase : base ≤ w.heap.size)
    (h : ∀ v' w', w'.ownsRow base e size v' (n + m) (xs ++ news) → w.grownBy w' v.ownBlock → (∀ k, v'.ownBlock = some k → v.ownBlock = some k ∨ w.heap.size ≤ k) → wpList P ops Q rest (a.put o.dst v') w') : wpList P ops Q (o :: rest) a w := by
  have hgr : ∀ w' row, w.grownBy w' none → w.grownBy w' row := fun w' row g => ⟨g.os, g.tape, g.output, g.size, fun k hk _ => g.block k hk (by simp)⟩
  rcases hown.2 with ⟨rfl, rfl⟩ | ⟨g, cap, cur, rfl, hbg, hg, hnc, hcm, hcs, htake⟩
  · have hxs : xs = [] := List.eq_nil_of_length_eq_zero (by simpa using hown.1)
    subst hxs
    by_cases hm : m = 0
    · subst hm
      exact wpList_append_own w hgd s x t ho base e i z size bytes ht hi hz hsize hby hzs hsz _ 0 [] hs hown ad 0 c news hx hl hnews h1 h63 hbytes hbase (fun v' w' h2 h3 h4 => h v' w' h2 h3 (fun k hk => by
        have : v' = .slice none 0 0 := h4.2 ⟨rfl, rfl⟩
        subst this
        simp [Value.ownBlock] at hk))
    · exact wpList_append_grows w hgd s x t ho e i z size bytes ht hi hz hsize hby hzs hsz none 0 0 [] hs (fun _ => ⟨rfl, rfl⟩) (by simp) (fun b hb => by cases hb) ad m c news hx hl hnews h1 (by omega) h63 hbytes (fun v' w' h2 h3 => h v' w' (ownsRow_base h2 hbase) (hgr _ _ h3) (fun k hk => .inr (h2.lt k hk).1))
  · by_cases hroom : n + m ≤ cap
    · exact wpList_append_fits w hgd s x t ho base e i size ht hi hsize g n cap xs hs hown ad m c news hx hl hnews h1 hroom (fun w' h2 h3 => h _ w' h2 h3 (fun k hk => .inl hk))
    · exact wpList_append_grows w hgd s x t ho e i z size bytes ht hi hz hsize hby hzs hsz (some ⟨g, 0, none⟩) n cap xs hs (fun hh => by cases hh) hown.1 (fun b hb => by cases hb; exact hown.cells (g := g) rfl) ad m c news hx hl hnews h1 (by omega) h63 hbytes (fun v' w' h2 h3 => h v' w' (ownsRow_base h2 hbase) (hgr _ _ h3) (fun k hk => .inr (h2.lt k hk).1))

namespace Pro
/-- A sum that stops at 301. -/
def sumS : Int → List Int → Int
  | t, [] => t
  | t, z :: r => sumS (min (t + z) 301) r
def repS (z l m : Int) : Int := if m = -1 then max l 1 * z + 1 else l * z + (m - l) * (z + 1)
end Pro

/-- Some values in a row of one cell each. -/
def RowAt (w : World) (A : Nat → Prop) (sv : Value) (xs : List Value) : Prop :=
  (sv = .slice none 0 0 ∧ xs = []) ∨ ∃ g cap, sv = .slice (some ⟨g, 0, none⟩) xs.length cap ∧ A g ∧ xs.length ≤ cap ∧ g < w.heap.size ∧ ∀ j x, xs[j]? = some x → w.cell? ⟨g, j, none⟩ = some x
def leafT (T : TypeId) : Prop := T = 110 ∨ T = 112 ∨ T = 113 ∨ T = 114 ∨ T = 118
/-- A part of this size. -/
def SizeAt : Nat → World → (Nat → Prop) → Value → Int → Prop
  | 0, _, _, _, _ => False
  | f + 1, w, A, v, z =>
    (z = 1 ∧ ∃ T x, leafT T ∧ v = .iface T x) ∨
    (∃ sv xs zs, v = .iface 120 sv ∧ RowAt w A sv xs ∧ xs.length ≤ 1000 ∧ zs.length = xs.length ∧ (∀ (j : Nat) x z', xs[j]? = some x → zs[j]? = some z' → SizeAt f w A x z') ∧ 0 < xs.length ∧ z = min (Pro.sumS 0 zs + xs.length - 1) 301) ∨
    (∃ sv xs zs, v = .iface 122 sv ∧ RowAt w A sv xs ∧ xs.length ≤ 1000 ∧ zs.length = xs.length ∧ (∀ (j : Nat) x z', xs[j]? = some x → zs[j]? = some z' → SizeAt f w A x z') ∧ z = Pro.sumS 0 zs) ∨
    (∃ p l m z', v = .iface 124 (.agg #[p, .int .i64 l, .int .i64 m]) ∧ SizeAt f w A p z' ∧ 0 ≤ l ∧ l ≤ 100 ∧ -1 ≤ m ∧ m ≤ 100 ∧ (m = -1 ∨ l ≤ m) ∧ z = min (Pro.repS z' l m) 301)

theorem RowAt.keep {P A : Nat → Prop} {w w' : World} {sv : Value} {xs : List Value} (h : RowAt w A sv xs) (k : Only P w w') (hn : ∀ g, A g → ¬ P g) : RowAt w' A sv xs := by
  rcases h with h | ⟨g, cap, h1, h2, h3, h4, h5⟩
  · exact .inl h
  · exact .inr ⟨g, cap, h1, h2, h3, Nat.lt_of_lt_of_le h4 k.size, fun j x hj => (k.cell (World.block_lt_of_cell? w _ (h5 j x hj)) (hn g h2)).trans (h5 j x hj)⟩
theorem RowAt.mono {A B : Nat → Prop} {w : World} {sv : Value} {xs : List Value} (h : RowAt w A sv xs) (hAB : ∀ g, g < w.heap.size → A g → B g) : RowAt w B sv xs := by
  rcases h with h | ⟨g, cap, h1, h2, h3, h4, h5⟩
  · exact .inl h
  · exact .inr ⟨g, cap, h1, hAB g h4 h2, h3, h4, h5⟩
theorem SizeAt.keep {P A : Nat → Prop} {w w' : World} (k : Only P w w') (hn : ∀ g, A g → ¬ P g) : ∀ (f : Nat) (v : Value) (z : Int), SizeAt f w A v z → SizeAt f w' A v z
  | 0, _, _, h => h
  | f + 1, v, z, h => by
    rcases h with h | ⟨sv, xs, zs, h1, h2, h0, h3, h4, h5, h6⟩ | ⟨sv, xs, zs, h1, h2, h0, h3, h4, h5⟩ | ⟨p, l, m, z', h1, h2, h3⟩
    · exact .inl h
    · exact .inr (.inl ⟨sv, xs, zs, h1, h2.keep k hn, h0, h3, fun j x z' hx hz => SizeAt.keep k hn f x z' (h4 j x z' hx hz), h5, h6⟩)
    · exact .inr (.inr (.inl ⟨sv, xs, zs, h1, h2.keep k hn, h0, h3, fun j x z' hx hz => SizeAt.keep k hn f x z' (h4 j x z' hx hz), h5⟩))
    · exact .inr (.inr (.inr ⟨p, l, m, z', h1, SizeAt.keep k hn f p z' h2, h3⟩))
theorem SizeAt.mono {A B : Nat → Prop} {w : World} (hAB : ∀ g, g < w.heap.size → A g → B g) : ∀ (f : Nat) (v : Value) (z : Int), SizeAt f w A v z → SizeAt f w B v z
  | 0, _, _, h => h
  | f + 1, v, z, h => by
    rcases h with h | ⟨sv, xs, zs, h1, h2, h0, h3, h4, h5, h6⟩ | ⟨sv, xs, zs, h1, h2, h0, h3, h4, h5⟩ | ⟨p, l, m, z', h1, h2, h3⟩
    · exact .inl h
    · exact .inr (.inl ⟨sv, xs, zs, h1, h2.mono hAB, h0, h3, fun j x z' hx hz => SizeAt.mono hAB f x z' (h4 j x z' hx hz), h5, h6⟩)
    · exact .inr (.inr (.inl ⟨sv, xs, zs, h1, h2.mono hAB, h0, h3, fun j x z' hx hz => SizeAt.mono hAB f x z' (h4 j x z' hx hz), h5⟩))
    · exact .inr (.inr (.inr ⟨p, l, m, z', h1, SizeAt.mono hAB f p z' h2, h3⟩))
theorem SizeAt.up {A : Nat → Prop} {w : World} : ∀ (f g : Nat) (v : Value) (z : Int), f ≤ g → SizeAt f w A v z → SizeAt g w A v z
  | 0, _, _, _, _, h => h.elim
  | f + 1, 0, _, _, hg, _ => by omega
  | f + 1, g + 1, v, z, hg, h => by
    rcases h with h | ⟨sv, xs, zs, h1, h2, h0, h3, h4, h5, h6⟩ | ⟨sv, xs, zs, h1, h2, h0, h3, h4, h5⟩ | ⟨p, l, m, z', h1, h2, h3⟩
    · exact .inl h
    · exact .inr (.inl ⟨sv, xs, zs, h1, h2, h0, h3, fun j x z' hx hz => SizeAt.up f g x z' (by omega) (h4 j x z' hx hz), h5, h6⟩)
    · exact .inr (.inr (.inl ⟨sv, xs, zs, h1, h2, h0, h3, fun j x z' hx hz => SizeAt.up f g x z' (by omega) (h4 j x z' hx hz), h5⟩))
    · exact .inr (.inr (.inr ⟨p, l, m, z', h1, SizeAt.up f g p z' (by omega) h2, h3⟩))

namespace Pro
theorem sumS_bd : ∀ (zs : List Int) (t : Int), 0 ≤ t → t ≤ 301 → (∀ z ∈ zs, 0 ≤ z) → 0 ≤ sumS t zs ∧ sumS t zs ≤ 301
  | [], t, h0, h1, _ => ⟨h0, h1⟩
  | z :: r, t, h0, h1, h => by
    have hz := h z (List.mem_cons_self ..)
    exact sumS_bd r (min (t + z) 301) (by omega) (by omega) (fun y hy => h y (List.mem_cons_of_mem _ hy))
theorem repS_nn {z l m : Int} (hz : 0 ≤ z) (hl : 0 ≤ l) (hm : m = -1 ∨ l ≤ m) : 0 ≤ repS z l m := by
  unfold repS
  split
  · have : 0 ≤ max l 1 * z := Int.mul_nonneg (by omega) hz
    omega
  · have h1 : 0 ≤ l * z := Int.mul_nonneg hl hz
    have h2 : 0 ≤ (m - l) * (z + 1) := Int.mul_nonneg (by omega) (by omega)
    omega
end Pro
theorem mem_index {α : Type} {l : List α} {x : α} (h : x ∈ l) : ∃ j : Nat, l[j]? = some x := by
  obtain ⟨j, hj, e⟩ := List.getElem_of_mem h
  exact ⟨j, by rw [List.getElem?_eq_getElem hj, e]⟩
theorem SizeAt.bd {A : Nat → Prop} {w : World} : ∀ (f : Nat) (v : Value) (z : Int), SizeAt f w A v z → 0 ≤ z ∧ z ≤ 301
  | 0, _, _, h => h.elim
  | f + 1, v, z, h => by
    have key : ∀ (xs : List Value) (zs : List Int), zs.length = xs.length → (∀ (j : Nat) x z', xs[j]? = some x → zs[j]? = some z' → SizeAt f w A x z') → ∀ y ∈ zs, 0 ≤ y := by
      intro xs zs hl hh y hy
      obtain ⟨j, hj⟩ := mem_index hy
      have hjl : j < xs.length := by
        by_cases hlt : j < zs.length
        · omega
        · rw [List.getElem?_eq_none (by omega)] at hj; cases hj
      exact (SizeAt.bd f _ _ (hh j xs[j] y (List.getElem?_eq_getElem hjl) hj)).1
    rcases h with ⟨h, _⟩ | ⟨sv, xs, zs, h1, h2, h0, h3, h4, h5, h6⟩ | ⟨sv, xs, zs, h1, h2, h0, h3, h4, h5⟩ | ⟨p, l, m, z', h1, h2, h3, h4, h5, h6, h7, h8⟩
    · omega
    · have := Pro.sumS_bd zs 0 (by omega) (by omega) (key xs zs h3 h4)
      omega
    · have := Pro.sumS_bd zs 0 (by omega) (by omega) (key xs zs h3 h4)
      omega
    · have := SizeAt.bd f p z' h2
      have := Pro.repS_nn this.1 h3 h7
      omega

/-- Parts in a row, each of its size. -/
def Sizes (f : Nat) (w : World) (A : Nat → Prop) (xs : List Value) (zs : List Int) : Prop := zs.length = xs.length ∧ ∀ (j : Nat) x z', xs[j]? = some x → zs[j]? = some z' → SizeAt f w A x z'
theorem Sizes.append {f g : Nat} {w : World} {A : Nat → Prop} {xs : List Value} {zs : List Int} {x : Value} {z : Int} (h : Sizes f w A xs zs) (hx : SizeAt g w A x z) : Sizes (max f g) w A (xs ++ [x]) (zs ++ [z]) := by
  refine ⟨by simp [h.1], ?_⟩
  intro j y z' hy hz
  by_cases hj : j < xs.length
  · rw [List.getElem?_append_left hj] at hy
    rw [List.getElem?_append_left (by rw [h.1]; exact hj)] at hz
    exact SizeAt.up f _ _ _ (by omega) (h.2 j y z' hy hz)
  · rw [List.getElem?_append_right (by omega)] at hy
    rw [List.getElem?_append_right (by rw [h.1]; omega), h.1] at hz
    by_cases h0 : j - xs.length = 0
    · rw [h0] at hy hz
      simp at hy hz
      subst hy; subst hz
      exact SizeAt.up g _ _ _ (by omega) hx
    · rw [List.getElem?_eq_none (by simp; omega)] at hy; cases hy

/-- What a reader's method gives that reads a part: a part of the size that is told, or the fault. -/
def Gives (b : Nat) (L : List (Int × Int)) (len dp : Int) (a : Nat → Addr) (w : World) (o : Pro.Out) (x : Ending) (w' : World) : Prop :=
  Only (Mine b) w w' ∧ RdAt w' b L o.n len dp ∧ ((o.k = 0 ∧ ∃ T y F, x = .returned (.tuple #[.iface T y, .nilIface]) ∧ SizeAt F w' (fun g => w.heap.size ≤ g) (.iface T y) o.v) ∨
    (o.k ≠ 0 ∧ ∃ v, x = .returned (.tuple #[.nilIface, v]) ∧ FaultAt w' w.heap.size v (sentV a o.k) o.p))
end Go.Proofs.YtdhmllobgijggaaGreatDoor
namespace Go.Proofs.YtdhmllobgijggaaGreatDoor
open Go.RowKit

namespace Pro
section
variable (L : List (Int × Int)) (len : Int)
def openO (n : Nat) : Out :=
  if letAt L (n + 1) = 63 then
    (if letAt L (n + 2) = 58 then good 0 (n + 3)
     else if letAt L (n + 2) = 61 ∨ letAt L (n + 2) = 33 ∨ letAt L (n + 2) = 60 then bad 6 (placeAt L len n) (n + 2)
     else bad 3 (placeAt L len (n + 2)) (n + 2))
  else good 0 (n + 1)
/-- How many letters the assertion has that stands next; 0: none. -/
def asN (n : Nat) : Nat := if letAt L n = 94 ∨ letAt L n = 36 then 1 else if letAt L n = 92 ∧ (letAt L (n + 1) = 98 ∨ letAt L (n + 1) = 66) then 2 else 0
def wrongL (c : Int) : Bool := (c == 42) || (c == 43) || (c == 63) || (c == 123) || (c == 125) || (c == 93)
def one (o : Out) : Out := if o.k = 0 then good 1 o.n else o
def atomO (D : Nat → Out) (n : Nat) : Out :=
  if wrongL (letAt L n) = true then bad 3 (placeAt L len n) n
  else if letAt L n = 40 then D n
  else if letAt L n = 91 then one (classP L len n)
  else if letAt L n = 92 then one (escO L len n)
  else good 1 (n + 1)
def groupO (alt : Nat → Out) (n : Nat) : Out :=
  if (openO L len n).k ≠ 0 then openO L len n
  else if (alt (openO L len n).n).k ≠ 0 then alt (openO L len n).n
  else if letAt L (alt (openO L len n).n).n = 41 then good (alt (openO L len n).n).v ((alt (openO L len n).n).n + 1)
  else bad 3 (placeAt L len (alt (openO L len n).n).n) (alt (openO L len n).n).n
def termO (D : Nat → Out) (n : Nat) : Out :=
  if asN L n ≠ 0 then good 1 (n + asN L n)
  else if (atomO L len D n).k ≠ 0 then atomO L len D n
  else if (quantO L len (atomO L len D n).n).1 = false then atomO L len D n
  else if (quantO L len (atomO L len D n).n).2.1.k ≠ 0 then (quantO L len (atomO L len D n).n).2.1
  else good (min (repS (atomO L len D n).v (quantO L len (atomO L len D n).n).2.1.v (quantO L len (atomO L len D n).n).2.2) 301) (lazyN L (quantO L len (atomO L len D n).n).2.1.n)
def stopB (n : Nat) : Bool := decide (L.length ≤ n) || decide (letAt L n = 124) || decide (letAt L n = 41)
def termsO (D : Nat → Out) : Nat → Int → Nat → Out
  | 0, s, n => good s n
  | f + 1, s, n => if stopB L n = true then good s n
    else if (termO L len D n).k ≠ 0 then termO L len D n
    else termsO D f (min (s + (termO L len D n).v) 301) (termO L len D n).n
def termsP (D : Nat → Out) (n : Nat) : Out := termsO L len D (L.length + 1 - n) 0 n
def altO (D : Nat → Out) : Nat → List Int → Nat → Out
  | 0, _, n => good 0 n
  | f + 1, zs, n => if (termsP L len D n).k ≠ 0 then termsP L len D n
    else if letAt L (termsP L len D n).n = 124 then altO D f (zs ++ [(termsP L len D n).v]) ((termsP L len D n).n + 1)
    else good (min (sumS 0 (zs ++ [(termsP L len D n).v]) + ((zs.length : Int) + 1) - 1) 301) (termsP L len D n).n
def altP (D : Nat → Out) (n : Nat) : Out := altO L len D (L.length + 1 - n) [] n
/-- Groups where so many more may stand within one another. -/
def deepO : Nat → Nat → Out
  | 0, n => bad 7 (placeAt L len n) n
  | r + 1, n => groupO L len (altP L len (deepO r)) n
end

/-- A group's answer stays within the letters, and its size within its bounds. -/
def DOK (L : List (Int × Int)) (D : Nat → Out) : Prop := ∀ n, n < L.length → n ≤ (D n).n ∧ (D n).n ≤ L.length ∧ ((D n).k = 0 → n < (D n).n ∧ 0 ≤ (D n).v ∧ (D n).v ≤ 301)

section
variable {L : List (Int × Int)} {len : Int} {D : Nat → Out}
theorem openO_in (n : Nat) (h : n < L.length) : n < (openO L len n).n ∧ (openO L len n).n ≤ L.length := by
  unfold openO
  split
  · have h1 : n + 1 < L.length := letAt_in' (by omega)
    split
    · have h2 : n + 2 < L.length := letAt_in' (by omega)
      simp only [good]; omega
    · split
      · simp only [bad]; omega
      · simp only [bad]; omega
  · simp only [good]; omega
theorem asN_in (n : Nat) (h : asN L n ≠ 0) : n < n + asN L n ∧ n + asN L n ≤ L.length := by
  refine ⟨by omega, ?_⟩
  unfold asN at h ⊢
  split
  · have := letAt_in' (L := L) (n := n) (by omega); omega
  · split
    · have := letAt_in' (L := L) (n := n + 1) (by omega); omega
    · rename_i h1 h2; rw [if_neg h1, if_neg h2] at h; exact absurd rfl h
theorem one_n (o : Out) : (one o).n = o.n := by unfold one; split <;> rfl
theorem one_k (o : Out) : (one o).k = o.k := by unfold one; split <;> simp_all [good]
theorem one_v (o : Out) (h : o.k = 0) : (one o).v = 1 := by unfold one; rw [if_pos h]; rfl
theorem classP_in (n : Nat) (h : n < L.length) : n < (classP L len n).n ∧ (classP L len n).n ≤ L.length := by
  unfold classP
  split
  · have := letAt_in' (L := L) (n := n + 1) (by omega)
    have := classO_in (L := L) (len := len) (L.length + 1 - n) (n + 2) (by omega)
    omega
  · have := classO_in (L := L) (len := len) (L.length + 1 - n) (n + 1) (by omega)
    omega
theorem atomO_in (hD : DOK L D) (n : Nat) (h : n < L.length) : n ≤ (atomO L len D n).n ∧ (atomO L len D n).n ≤ L.length ∧ ((atomO L len D n).k = 0 → n < (atomO L len D n).n ∧ 0 ≤ (atomO L len D n).v ∧ (atomO L len D n).v ≤ 301) := by
  unfold atomO
  split
  · simp only [bad]; omega
  split
  · exact hD n h
  split
  · have := classP_in (L := L) (len := len) n h
    rw [one_n, one_k]
    exact ⟨by omega, by omega, fun hk => by rw [one_v _ hk]; omega⟩
  split
  · have := escO_in (L := L) (len := len) n h
    rw [one_n, one_k]
    exact ⟨by omega, by omega, fun hk => by rw [one_v _ hk]; omega⟩
  · simp only [good]; omega
theorem lazyN_in (n : Nat) (h : n ≤ L.length) : n ≤ lazyN L n ∧ lazyN L n ≤ L.length := by
  unfold lazyN
  split
  · have := letAt_in' (L := L) (n := n) (by omega); omega
  · omega
theorem quantO_in (n : Nat) (h : n ≤ L.length) : n ≤ (quantO L len n).2.1.n ∧ (quantO L len n).2.1.n ≤ L.length ∧ ((quantO L len n).1 = false → (quantO L len n).2.1.n = n) := by
  unfold quantO
  split
  · have := letAt_in' (L := L) (n := n) (by omega); simp [good]; omega
  split
  · have := letAt_in' (L := L) (n := n) (by omega); simp [good]; omega
  split
  · have := letAt_in' (L := L) (n := n) (by omega); simp [good]; omega
  split
  · have h1 := letAt_in' (L := L) (n := n) (by omega)
    have := countsO_in (len := len) n h1
    simp; omega
  · simp [good]; omega
theorem countsO_v (n : Nat) (h : n < L.length) (hk : (countsO L len n).1.k = 0) : 0 ≤ (countsO L len n).1.v ∧ (countsO L len n).1.v ≤ 100 ∧ -1 ≤ (countsO L len n).2 ∧ (countsO L len n).2 ≤ 100 ∧ ((countsO L len n).2 = -1 ∨ (countsO L len n).1.v ≤ (countsO L len n).2) := by
  have ha := countO_in (L := L) (len := len) (n + 1) (by omega)
  unfold countsO at hk ⊢
  simp only [] at hk ⊢
  split
  · rename_i h1; rw [if_pos h1] at hk; exact absurd hk h1
  rename_i h1
  rw [if_neg h1] at hk
  split
  · simp [good]; omega
  rename_i h2
  rw [if_neg h2] at hk
  split
  · rename_i h3; rw [if_pos h3] at hk; cases hk
  rename_i h3
  rw [if_neg h3] at hk
  have hl := letAt_in' (L := L) (n := (countO L len (n + 1)).n) (by omega)
  split
  · simp [good]; omega
  rename_i h4
  rw [if_neg h4] at hk
  have hm := countO_in (L := L) (len := len) ((countO L len (n + 1)).n + 1) (by omega)
  split
  · rename_i h5; rw [if_pos h5] at hk; exact absurd hk h5
  rename_i h5
  rw [if_neg h5] at hk
  split
  · rename_i h6; rw [if_pos h6] at hk; cases hk
  rename_i h6
  rw [if_neg h6] at hk
  split
  · rename_i h7; rw [if_pos h7] at hk; cases hk
  · simp [good]; omega
theorem quantO_v (n : Nat) (hq : (quantO L len n).1 = true) (hk : (quantO L len n).2.1.k = 0) : 0 ≤ (quantO L len n).2.1.v ∧ (quantO L len n).2.1.v ≤ 100 ∧ -1 ≤ (quantO L len n).2.2 ∧ (quantO L len n).2.2 ≤ 100 ∧ ((quantO L len n).2.2 = -1 ∨ (quantO L len n).2.1.v ≤ (quantO L len n).2.2) := by
  unfold quantO at hq hk ⊢
  split
  · simp [good]
  rename_i h1
  rw [if_neg h1] at hq hk
  split
  · simp [good]
  rename_i h2
  rw [if_neg h2] at hq hk
  split
  · simp [good]
  rename_i h3
  rw [if_neg h3] at hq hk
  split
  · rename_i h4
    rw [if_pos h4] at hk
    exact countsO_v n (letAt_in' (by omega)) hk
  · rename_i h4; rw [if_neg h4] at hq; cases hq
theorem termO_in (hD : DOK L D) (n : Nat) (h : n < L.length) : n ≤ (termO L len D n).n ∧ (termO L len D n).n ≤ L.length ∧ ((termO L len D n).k = 0 → n < (termO L len D n).n ∧ 0 ≤ (termO L len D n).v ∧ (termO L len D n).v ≤ 301) := by
  have ha := atomO_in (len := len) hD n h
  have hq := quantO_in (L := L) (len := len) (atomO L len D n).n ha.2.1
  unfold termO
  split
  · rename_i h1
    have := asN_in (L := L) n h1
    simp only [good]; omega
  split
  · rename_i h1 h2
    exact ⟨ha.1, ha.2.1, fun hk => absurd hk h2⟩
  rename_i h1 h2
  have h2' : (atomO L len D n).k = 0 := by omega
  split
  · exact ha
  rename_i h3
  split
  · rename_i h4
    exact ⟨by omega, by omega, fun hk => absurd hk h4⟩
  · rename_i h4
    have h4' : (quantO L len (atomO L len D n).n).2.1.k = 0 := by omega
    have hl := lazyN_in (L := L) (quantO L len (atomO L len D n).n).2.1.n hq.2.1
    have hv := quantO_v (L := L) (len := len) (atomO L len D n).n (by simpa using h3) h4'
    have hr := repS_nn (z := (atomO L len D n).v) (ha.2.2 h2').2.1 hv.1 hv.2.2.2.2
    have := (ha.2.2 h2').1
    simp only [good]
    omega
theorem termsO_in (hD : DOK L D) : ∀ (f : Nat) (s : Int) (n : Nat), n ≤ L.length → 0 ≤ s → s ≤ 301 → n ≤ (termsO L len D f s n).n ∧ (termsO L len D f s n).n ≤ L.length ∧ ((termsO L len D f s n).k = 0 → 0 ≤ (termsO L len D f s n).v ∧ (termsO L len D f s n).v ≤ 301)
  | 0, s, n, h, h0, h1 => by simp only [termsO, good]; omega
  | f + 1, s, n, h, h0, h1 => by
    simp only [termsO]
    split
    · simp only [good]; omega
    · rename_i hs
      have hlt : n < L.length := by unfold stopB at hs; simp at hs; omega
      have ht := termO_in (len := len) hD n hlt
      split
      · rename_i hk; exact ⟨ht.1, ht.2.1, fun hk' => absurd hk' hk⟩
      · rename_i hk
        have hk' : (termO L len D n).k = 0 := by omega
        have hv := ht.2.2 hk'
        have := termsO_in hD f (min (s + (termO L len D n).v) 301) (termO L len D n).n ht.2.1 (by omega) (by omega)
        omega
theorem termsP_in (hD : DOK L D) (n : Nat) (h : n ≤ L.length) : n ≤ (termsP L len D n).n ∧ (termsP L len D n).n ≤ L.length ∧ ((termsP L len D n).k = 0 → 0 ≤ (termsP L len D n).v ∧ (termsP L len D n).v ≤ 301) := termsO_in hD _ 0 n h (by omega) (by omega)
theorem altO_in (hD : DOK L D) : ∀ (f : Nat) (zs : List Int) (n : Nat), n ≤ L.length → (∀ z ∈ zs, 0 ≤ z) → n ≤ (altO L len D f zs n).n ∧ (altO L len D f zs n).n ≤ L.length ∧ ((altO L len D f zs n).k = 0 → 0 ≤ (altO L len D f zs n).v ∧ (altO L len D f zs n).v ≤ 301)
  | 0, zs, n, h, hz => by simp only [altO, good]; omega
  | f + 1, zs, n, h, hz => by
    have ht := termsP_in (len := len) hD n h
    simp only [altO]
    split
    · rename_i hk; exact ⟨ht.1, ht.2.1, fun hk' => absurd hk' hk⟩
    rename_i hk
    have hk' : (termsP L len D n).k = 0 := by omega
    have hz' : ∀ z ∈ zs ++ [(termsP L len D n).v], 0 ≤ z := by
      intro z hzm
      rcases List.mem_append.1 hzm with hm | hm
      · exact hz z hm
      · simp at hm; have := (ht.2.2 hk').1; omega
    split
    · have h1 := letAt_in' (L := L) (n := (termsP L len D n).n) (by omega)
      have := altO_in hD f (zs ++ [(termsP L len D n).v]) ((termsP L len D n).n + 1) (by omega) hz'
      omega
    · have := sumS_bd (zs ++ [(termsP L len D n).v]) 0 (by omega) (by omega) hz'
      simp only [good]; omega
theorem altP_in (hD : DOK L D) (n : Nat) (h : n ≤ L.length) : n ≤ (altP L len D n).n ∧ (altP L len D n).n ≤ L.length ∧ ((altP L len D n).k = 0 → 0 ≤ (altP L len D n).v ∧ (altP L len D n).v ≤ 301) := altO_in hD _ [] n h (by simp)
theorem deepO_in : ∀ r, DOK L (deepO L len r)
  | 0 => fun n h => by simp only [deepO, bad]; omega
  | r + 1 => fun n h => by
    have ho := openO_in (L := L) (len := len) n h
    have ha := altP_in (len := len) (deepO_in r) (openO L len n).n ho.2
    simp only [deepO]
    unfold groupO
    split
    · rename_i hk; exact ⟨by omega, by omega, fun hk' => absurd hk' hk⟩
    split
    · rename_i hk; exact ⟨by omega, by omega, fun hk' => absurd hk' hk⟩
    rename_i hk1 hk2
    have hk2' : (altP L len (deepO L len r) (openO L len n).n).k = 0 := by omega
    have hv := ha.2.2 hk2'
    split
    · have h1 := letAt_in' (L := L) (n := (altP L len (deepO L len r) (openO L len n).n).n) (by omega)
      simp only [good]; omega
    · simp only [bad]; omega
end
end Pro
end Go.Proofs.YtdhmllobgijggaaGreatDoor
namespace Go.Proofs.YtdhmllobgijggaaGreatDoor
open Go.RowKit

set_option maxHeartbeats 2000000 in
theorem assertion_any (b : Nat) (L : List (Int × Int)) (n : Nat) (len dp : Int) (a : Nat → Addr) (w : World) (h : RdAt w b L n len dp) (hS : Sents w a) (hb : 10 ≤ b) (hL : L.length ≤ 400) (hn : n ≤ L.length) :
    Calls Tryz.prog 104 #[.pointer (some ⟨b, 0, none⟩)] w fun x w' => Only (Mine b) w w' ∧ RdAt w' b L (n + Pro.asN L n) len dp ∧ ((Pro.asN L n ≠ 0 ∧ ∃ c, x = .returned (.tuple #[.int .i64 c, .bool true])) ∨ (Pro.asN L n = 0 ∧ x = .returned (.tuple #[.int .i64 0, .bool false]))) := by
  have T := hide (Trk.start h hS hb)
  clear h hS
  by_cases h1 : Pro.letAt L n = 94
  · have HA : Hid (Pro.asN L n = 1) := by unfold Pro.asN; rw [if_pos (.inl h1)]; rfl
    have m1 : Pro.matchB L n { data := #[94] } = true := by rw [Pro.matchB_one L n 94 94 rfl]; simp [h1]
    go_enter Tryz.func104, Tryz.ntmps104
    go_wp2_with (first | (go_at_call 71; refine (take_t (n := n) _ (by first | exact unhide T | exact (unhide T).drewN _ | exact ((unhide T).drewN _).drewN _ | exact (unhide T).setN _ _ (by omega) | exact ((unhide T).drewN _).setN _ _ (by omega) | exact ((unhide T).setN _ _ (by omega)).drewN _ | exact (((unhide T).drewN _).setN _ _ (by omega)).drewN _) hL (by omega) (by decide) (by assumption)).mono ?_; rintro e wq ⟨rfl, tq⟩; have tq : Trk _ _ b L ((n) + 1) len dp a wq := tq; have T := hide tq; have c1 := tq.c1; have f1 := tq.f1))
    go_ret2
    rw [unhide HA]
    exact ⟨Own.to (unhide T).on, (unhide T).rd, .inl ⟨by decide, _, rfl⟩⟩
  · have m1 : Pro.matchB L n { data := #[94] } = false := by rw [Pro.matchB_one L n 94 94 rfl]; simp [h1]
    by_cases h2 : Pro.letAt L n = 36
    · have HA : Hid (Pro.asN L n = 1) := by unfold Pro.asN; rw [if_pos (.inr h2)]; rfl
      have m2 : Pro.matchB L n { data := #[36] } = true := by rw [Pro.matchB_one L n 36 36 rfl]; simp [h2]
      go_enter Tryz.func104, Tryz.ntmps104
      go_wp2_with (first | (go_at_call 71; refine (takeno_t (n := n) _ (by first | exact unhide T | exact (unhide T).drewN _ | exact ((unhide T).drewN _).drewN _ | exact (unhide T).setN _ _ (by omega) | exact ((unhide T).drewN _).setN _ _ (by omega) | exact ((unhide T).setN _ _ (by omega)).drewN _ | exact (((unhide T).drewN _).setN _ _ (by omega)).drewN _) hL (by omega) (by decide) (by assumption)).mono ?_; rintro e wq ⟨rfl, qq, rfl⟩) | (go_at_call 71; refine (take_t (n := n) _ (by first | exact unhide T | exact (unhide T).drewN _ | exact ((unhide T).drewN _).drewN _ | exact (unhide T).setN _ _ (by omega) | exact ((unhide T).drewN _).setN _ _ (by omega) | exact ((unhide T).setN _ _ (by omega)).drewN _ | exact (((unhide T).drewN _).setN _ _ (by omega)).drewN _) hL (by omega) (by decide) (by assumption)).mono ?_; rintro e wq ⟨rfl, tq⟩; have tq : Trk _ _ b L ((n) + 1) len dp a wq := tq; have T := hide tq; have c1 := tq.c1; have f1 := tq.f1))
      go_ret2
      rw [unhide HA]
      exact ⟨Own.to (unhide T).on, (unhide T).rd, .inl ⟨by decide, _, rfl⟩⟩
    · have m2 : Pro.matchB L n { data := #[36] } = false := by rw [Pro.matchB_one L n 36 36 rfl]; simp [h2]
      by_cases h3 : Pro.letAt L n = 92 ∧ Pro.letAt L (n + 1) = 98
      · have HA : Hid (Pro.asN L n = 2) := by unfold Pro.asN; rw [if_neg (by omega), if_pos ⟨h3.1, .inl h3.2⟩]; rfl
        have m3 : Pro.matchB L n { data := #[92, 98] } = true := by rw [Pro.matchB_two L n 92 98 92 98 rfl rfl]; simp [h3]
        clear h3
        go_enter Tryz.func104, Tryz.ntmps104
        go_wp2_with (first | (go_at_call 71; refine (takeno_t (n := n) _ (by first | exact unhide T | exact (unhide T).drewN _ | exact ((unhide T).drewN _).drewN _ | exact (unhide T).setN _ _ (by omega) | exact ((unhide T).drewN _).setN _ _ (by omega) | exact ((unhide T).setN _ _ (by omega)).drewN _ | exact (((unhide T).drewN _).setN _ _ (by omega)).drewN _) hL (by omega) (by decide) (by assumption)).mono ?_; rintro e wq ⟨rfl, qq, rfl⟩) | (go_at_call 71; refine (take_t (n := n) _ (by first | exact unhide T | exact (unhide T).drewN _ | exact ((unhide T).drewN _).drewN _ | exact (unhide T).setN _ _ (by omega) | exact ((unhide T).drewN _).setN _ _ (by omega) | exact ((unhide T).setN _ _ (by omega)).drewN _ | exact (((unhide T).drewN _).setN _ _ (by omega)).drewN _) hL (by omega) (by decide) (by assumption)).mono ?_; rintro e wq ⟨rfl, tq⟩; have tq : Trk _ _ b L ((n) + 2) len dp a wq := tq; have T := hide tq; have c1 := tq.c1; have f1 := tq.f1))
        go_ret2
        rw [unhide HA]
        exact ⟨Own.to (unhide T).on, (unhide T).rd, .inl ⟨by decide, _, rfl⟩⟩
      · have m3 : Pro.matchB L n { data := #[92, 98] } = false := by rw [Pro.matchB_two L n 92 98 92 98 rfl rfl]; simp; omega
        by_cases h4 : Pro.letAt L n = 92 ∧ Pro.letAt L (n + 1) = 66
        · have HA : Hid (Pro.asN L n = 2) := by unfold Pro.asN; rw [if_neg (by omega), if_pos ⟨h4.1, .inr h4.2⟩]; rfl
          have m4 : Pro.matchB L n { data := #[92, 66] } = true := by rw [Pro.matchB_two L n 92 66 92 66 rfl rfl]; simp [h4]
          clear h3 h4
          go_enter Tryz.func104, Tryz.ntmps104
          go_wp2_with (first | (go_at_call 71; refine (takeno_t (n := n) _ (by first | exact unhide T | exact (unhide T).drewN _ | exact ((unhide T).drewN _).drewN _ | exact (unhide T).setN _ _ (by omega) | exact ((unhide T).drewN _).setN _ _ (by omega) | exact ((unhide T).setN _ _ (by omega)).drewN _ | exact (((unhide T).drewN _).setN _ _ (by omega)).drewN _) hL (by omega) (by decide) (by assumption)).mono ?_; rintro e wq ⟨rfl, qq, rfl⟩) | (go_at_call 71; refine (take_t (n := n) _ (by first | exact unhide T | exact (unhide T).drewN _ | exact ((unhide T).drewN _).drewN _ | exact (unhide T).setN _ _ (by omega) | exact ((unhide T).drewN _).setN _ _ (by omega) | exact ((unhide T).setN _ _ (by omega)).drewN _ | exact (((unhide T).drewN _).setN _ _ (by omega)).drewN _) hL (by omega) (by decide) (by assumption)).mono ?_; rintro e wq ⟨rfl, tq⟩; have tq : Trk _ _ b L ((n) + 2) len dp a wq := tq; have T := hide tq; have c1 := tq.c1; have f1 := tq.f1))
          go_ret2
          rw [unhide HA]
          exact ⟨Own.to (unhide T).on, (unhide T).rd, .inl ⟨by decide, _, rfl⟩⟩
        · have m4 : Pro.matchB L n { data := #[92, 66] } = false := by rw [Pro.matchB_two L n 92 66 92 66 rfl rfl]; simp; omega
          have HA : Hid (Pro.asN L n = 0) := by unfold Pro.asN; rw [if_neg (by omega), if_neg (by omega)]; rfl
          clear h3 h4
          go_enter Tryz.func104, Tryz.ntmps104
          go_wp2_with (first | (go_at_call 71; refine (takeno_t (n := n) _ (by first | exact unhide T | exact (unhide T).drewN _ | exact ((unhide T).drewN _).drewN _ | exact (unhide T).setN _ _ (by omega) | exact ((unhide T).drewN _).setN _ _ (by omega) | exact ((unhide T).setN _ _ (by omega)).drewN _ | exact (((unhide T).drewN _).setN _ _ (by omega)).drewN _) hL (by omega) (by decide) (by assumption)).mono ?_; rintro e wq ⟨rfl, qq, rfl⟩))
          go_ret2
          rw [unhide HA]
          exact ⟨Own.to ((unhide T).drewN _).on, ((unhide T).drewN _).rd, .inr ⟨rfl, rfl⟩⟩

/-- The error that 'opening' answers. -/
def Opens (b : Nat) (L : List (Int × Int)) (len dp : Int) (a : Nat → Addr) (w : World) (o : Pro.Out) (x : Ending) (w' : World) : Prop :=
  Trk w.heap.size w b L o.n len dp a w' ∧ ((o.k = 0 ∧ x = .returned .nilIface ∧ True) ∨ (o.k ≠ 0 ∧ ∃ v, x = .returned v ∧ FaultAt w' w.heap.size v (sentV a o.k) o.p))

set_option maxHeartbeats 2000000 in
theorem opening_any (b : Nat) (L : List (Int × Int)) (n : Nat) (len dp : Int) (a : Nat → Addr) (w : World) (h : RdAt w b L n len dp) (hS : Sents w a) (hb : 10 ≤ b) (hL : L.length ≤ 400) (hn : n < L.length) :
    Calls Tryz.prog 121 #[.pointer (some ⟨b, 0, none⟩)] w (Opens b L len dp a w (Pro.openO L len n)) := by
  have T := hide (Trk.start h hS hb)
  have c1 := h.c1
  have f1 := h.f1
  have hs6 := hS.s6
  clear h hS
  by_cases h1 : Pro.letAt L (n + 1) = 63
  · have m1 : Pro.matchB L (n + 1) { data := #[63] } = true := by rw [Pro.matchB_one L (n + 1) 63 63 rfl]; simp [h1]
    have hlt := Pro.letAt_in' (L := L) (n := n + 1) (by omega)
    by_cases h2 : Pro.letAt L (n + 2) = 58
    · have m2 : Pro.matchB L (n + 1 + 1) { data := #[58] } = true := by rw [Pro.matchB_one L (n + 1 + 1) 58 58 rfl]; simp [h2]
      have HO : Hid (Pro.openO L len n = Pro.good 0 (n + 3)) := by unfold Pro.openO; rw [if_pos h1, if_pos h2]; rfl
      clear h1 h2
      go_enter Tryz.func121, Tryz.ntmps121
      go_wp2_with (first | (go_at_call 72; refine (place_t (n := n) (by first | exact unhide T | exact (unhide T).drewN _ | exact ((unhide T).drewN _).drewN _ | exact (unhide T).setN _ _ (by omega) | exact ((unhide T).drewN _).setN _ _ (by omega) | exact ((unhide T).setN _ _ (by omega)).drewN _ | exact (((unhide T).drewN _).setN _ _ (by omega)).drewN _) hL (by omega)).mono ?_; rintro e wq ⟨rfl, qq, rfl⟩) | (go_at_call 71; refine (take_t (n := n + 1) _ (by first | exact unhide T | exact (unhide T).drewN _ | exact ((unhide T).drewN _).drewN _ | exact (unhide T).setN _ _ (by omega) | exact ((unhide T).drewN _).setN _ _ (by omega) | exact ((unhide T).setN _ _ (by omega)).drewN _ | exact (((unhide T).drewN _).setN _ _ (by omega)).drewN _) hL (by omega) (by decide) (by assumption)).mono ?_; rintro e wq ⟨rfl, tq⟩; have tq : Trk _ _ b L ((n + 1) + 1) len dp a wq := tq; have T := hide tq; have c1 := tq.c1; have f1 := tq.f1) | (go_at_call 71; refine (take_t (n := n + 1 + 1) _ (by first | exact unhide T | exact (unhide T).drewN _ | exact ((unhide T).drewN _).drewN _ | exact (unhide T).setN _ _ (by omega) | exact ((unhide T).drewN _).setN _ _ (by omega) | exact ((unhide T).setN _ _ (by omega)).drewN _ | exact (((unhide T).drewN _).setN _ _ (by omega)).drewN _) hL (by omega) (by decide) (by assumption)).mono ?_; rintro e wq ⟨rfl, tq⟩; have tq : Trk _ _ b L ((n + 1 + 1) + 1) len dp a wq := tq; have T := hide tq; have c1 := tq.c1; have f1 := tq.f1))
      go_ret
      rw [unhide HO]
      exact ⟨unhide T, .inl ⟨rfl, rfl, trivial⟩⟩
    · have m2 : Pro.matchB L (n + 1 + 1) { data := #[58] } = false := by rw [Pro.matchB_one L (n + 1 + 1) 58 58 rfl]; simp [h2]
      by_cases h3 : Pro.letAt L (n + 2) = 61 ∨ Pro.letAt L (n + 2) = 33 ∨ Pro.letAt L (n + 2) = 60
      · have HO : Hid (Pro.openO L len n = Pro.bad 6 (Pro.placeAt L len n) (n + 2)) := by unfold Pro.openO; rw [if_pos h1, if_neg h2, if_pos h3]; rfl
        have h3' : ((Pro.letAt L (n + 2) == 61) = true) ∨ ((Pro.letAt L (n + 2) == 61) = false ∧ (Pro.letAt L (n + 2) == 33) = true) ∨ ((Pro.letAt L (n + 2) == 61) = false ∧ (Pro.letAt L (n + 2) == 33) = false ∧ (Pro.letAt L (n + 2) == 60) = true) := by
          by_cases q1 : Pro.letAt L (n + 2) = 61
          · left; simp [q1]
          · right
            by_cases q2 : Pro.letAt L (n + 2) = 33
            · left; simp [q2]
            · right; exact ⟨by simp [q1], by simp [q2], by simp; omega⟩
        clear h1 h2 h3
        rcases h3' with q1 | ⟨q1, q2⟩ | ⟨q1, q2, q3⟩
        all_goals
          go_enter Tryz.func121, Tryz.ntmps121
          go_wp2_with (first | (go_at_call 72; refine (place_t (n := n) (by first | exact unhide T | exact (unhide T).drewN _ | exact ((unhide T).drewN _).drewN _ | exact (unhide T).setN _ _ (by omega) | exact ((unhide T).drewN _).setN _ _ (by omega) | exact ((unhide T).setN _ _ (by omega)).drewN _ | exact (((unhide T).drewN _).setN _ _ (by omega)).drewN _) hL (by omega)).mono ?_; rintro e wq ⟨rfl, qq, rfl⟩) | (go_at_call 71; refine (take_t (n := n + 1) _ (by first | exact unhide T | exact (unhide T).drewN _ | exact ((unhide T).drewN _).drewN _ | exact (unhide T).setN _ _ (by omega) | exact ((unhide T).drewN _).setN _ _ (by omega) | exact ((unhide T).setN _ _ (by omega)).drewN _ | exact (((unhide T).drewN _).setN _ _ (by omega)).drewN _) hL (by omega) (by decide) (by assumption)).mono ?_; rintro e wq ⟨rfl, tq⟩; have tq : Trk _ _ b L ((n + 1) + 1) len dp a wq := tq; have T := hide tq; have c1 := tq.c1; have f1 := tq.f1); (have hs6 := (unhide T).se.s6) | (go_at_call 71; refine (takeno_t (n := n + 1 + 1) _ (by first | exact unhide T | exact (unhide T).drewN _ | exact ((unhide T).drewN _).drewN _ | exact (unhide T).setN _ _ (by omega) | exact ((unhide T).drewN _).setN _ _ (by omega) | exact ((unhide T).setN _ _ (by omega)).drewN _ | exact (((unhide T).drewN _).setN _ _ (by omega)).drewN _) hL (by omega) (by decide) (by assumption)).mono ?_; rintro e wq ⟨rfl, qq, rfl⟩) | (go_at_call 89; refine (peek_t (n := n + 2) (by first | exact unhide T | exact (unhide T).drewN _ | exact ((unhide T).drewN _).drewN _ | exact (unhide T).setN _ _ (by omega) | exact ((unhide T).drewN _).setN _ _ (by omega) | exact ((unhide T).setN _ _ (by omega)).drewN _ | exact (((unhide T).drewN _).setN _ _ (by omega)).drewN _) hL (by omega)).mono ?_; rintro e wq ⟨rfl, hwq⟩; have hwr := hwq.symm; subst hwr; clear hwq) | (go_at_call 46; refine (new_t (n := n + 2) _ 6 _ _ rfl (by first | exact unhide T | exact (unhide T).drewN _ | exact ((unhide T).drewN _).drewN _ | exact (unhide T).setN _ _ (by omega) | exact ((unhide T).drewN _).setN _ _ (by omega) | exact ((unhide T).setN _ _ (by omega)).drewN _ | exact (((unhide T).drewN _).setN _ _ (by omega)).drewN _)).mono ?_; rintro e wq ⟨v, rfl, hv, tq⟩; have T := hide tq; have c1 := tq.c1; have f1 := tq.f1))
          go_ret
          rw [unhide HO]
          exact ⟨unhide T, .inr ⟨(show (6 : Nat) ≠ 0 by decide), v, rfl, hv⟩⟩
      · have HO : Hid (Pro.openO L len n = Pro.bad 3 (Pro.placeAt L len (n + 2)) (n + 2)) := by unfold Pro.openO; rw [if_pos h1, if_neg h2, if_neg h3]; rfl
        have q1 : (Pro.letAt L (n + 2) == 61) = false := by simp; omega
        have q2 : (Pro.letAt L (n + 2) == 33) = false := by simp; omega
        have q3 : (Pro.letAt L (n + 2) == 60) = false := by simp; omega
        clear h1 h2 h3
        go_enter Tryz.func121, Tryz.ntmps121
        go_wp2_with (first | (go_at_call 72; refine (place_t (n := n) (by first | exact unhide T | exact (unhide T).drewN _ | exact ((unhide T).drewN _).drewN _ | exact (unhide T).setN _ _ (by omega) | exact ((unhide T).drewN _).setN _ _ (by omega) | exact ((unhide T).setN _ _ (by omega)).drewN _ | exact (((unhide T).drewN _).setN _ _ (by omega)).drewN _) hL (by omega)).mono ?_; rintro e wq ⟨rfl, qq, rfl⟩) | (go_at_call 71; refine (take_t (n := n + 1) _ (by first | exact unhide T | exact (unhide T).drewN _ | exact ((unhide T).drewN _).drewN _ | exact (unhide T).setN _ _ (by omega) | exact ((unhide T).drewN _).setN _ _ (by omega) | exact ((unhide T).setN _ _ (by omega)).drewN _ | exact (((unhide T).drewN _).setN _ _ (by omega)).drewN _) hL (by omega) (by decide) (by assumption)).mono ?_; rintro e wq ⟨rfl, tq⟩; have tq : Trk _ _ b L ((n + 1) + 1) len dp a wq := tq; have T := hide tq; have c1 := tq.c1; have f1 := tq.f1) | (go_at_call 71; refine (takeno_t (n := n + 1 + 1) _ (by first | exact unhide T | exact (unhide T).drewN _ | exact ((unhide T).drewN _).drewN _ | exact (unhide T).setN _ _ (by omega) | exact ((unhide T).drewN _).setN _ _ (by omega) | exact ((unhide T).setN _ _ (by omega)).drewN _ | exact (((unhide T).drewN _).setN _ _ (by omega)).drewN _) hL (by omega) (by decide) (by assumption)).mono ?_; rintro e wq ⟨rfl, qq, rfl⟩) | (go_at_call 89; refine (peek_t (n := n + 2) (by first | exact unhide T | exact (unhide T).drewN _ | exact ((unhide T).drewN _).drewN _ | exact (unhide T).setN _ _ (by omega) | exact ((unhide T).drewN _).setN _ _ (by omega) | exact ((unhide T).setN _ _ (by omega)).drewN _ | exact (((unhide T).drewN _).setN _ _ (by omega)).drewN _) hL (by omega)).mono ?_; rintro e wq ⟨rfl, hwq⟩; have hwr := hwq.symm; subst hwr; clear hwq) | (go_at_call 50; refine (wrong_t (n := n + 2) (by first | exact unhide T | exact (unhide T).drewN _ | exact ((unhide T).drewN _).drewN _ | exact (unhide T).setN _ _ (by omega) | exact ((unhide T).drewN _).setN _ _ (by omega) | exact ((unhide T).setN _ _ (by omega)).drewN _ | exact (((unhide T).drewN _).setN _ _ (by omega)).drewN _) hL (by omega)).mono ?_; rintro e wq ⟨v, rfl, hv, tq⟩; have T := hide tq; have c1 := tq.c1; have f1 := tq.f1))
        go_ret
        rw [unhide HO]
        exact ⟨unhide T, .inr ⟨(show (3 : Nat) ≠ 0 by decide), v, rfl, hv⟩⟩
  · have m1 : Pro.matchB L (n + 1) { data := #[63] } = false := by rw [Pro.matchB_one L (n + 1) 63 63 rfl]; simp [h1]
    have HO : Hid (Pro.openO L len n = Pro.good 0 (n + 1)) := by unfold Pro.openO; rw [if_neg h1]; rfl
    clear h1
    go_enter Tryz.func121, Tryz.ntmps121
    go_wp2_with (first | (go_at_call 72; refine (place_t (n := n) (by first | exact unhide T | exact (unhide T).drewN _ | exact ((unhide T).drewN _).drewN _ | exact (unhide T).setN _ _ (by omega) | exact ((unhide T).drewN _).setN _ _ (by omega) | exact ((unhide T).setN _ _ (by omega)).drewN _ | exact (((unhide T).drewN _).setN _ _ (by omega)).drewN _) hL (by omega)).mono ?_; rintro e wq ⟨rfl, qq, rfl⟩) | (go_at_call 71; refine (takeno_t (n := n + 1) _ (by first | exact unhide T | exact (unhide T).drewN _ | exact ((unhide T).drewN _).drewN _ | exact (unhide T).setN _ _ (by omega) | exact ((unhide T).drewN _).setN _ _ (by omega) | exact ((unhide T).setN _ _ (by omega)).drewN _ | exact (((unhide T).drewN _).setN _ _ (by omega)).drewN _) hL (by omega) (by decide) (by assumption)).mono ?_; rintro e wq ⟨rfl, qq, rfl⟩))
    go_ret
    rw [unhide HO]
    exact ⟨Trk.drewN (Trk.setN (by first | exact (unhide T).drewN _ | exact unhide T) (n + 1) _ (by omega)) _, .inl ⟨rfl, rfl, trivial⟩⟩
end Go.Proofs.YtdhmllobgijggaaGreatDoor
namespace Go.Proofs.YtdhmllobgijggaaGreatDoor
open Go.RowKit

/-- 'group' at this depth gives what D says. -/
def GroupOK (b : Nat) (L : List (Int × Int)) (len dp : Int) (a : Nat → Addr) (D : Nat → Pro.Out) : Prop := ∀ (n : Nat) (w : World), RdAt w b L n len dp → Sents w a → n < L.length → Calls Tryz.prog 114 #[.pointer (some ⟨b, 0, none⟩)] w (Gives b L len dp a w (D n))

theorem SizeAt.leaf (w : World) (A : Nat → Prop) (T : TypeId) (x : Value) (h : leafT T) : SizeAt 1 w A (.iface T x) 1 := .inl ⟨rfl, T, x, h, rfl⟩
theorem Gives.good {b : Nat} {L : List (Int × Int)} {len dp : Int} {a : Nat → Addr} {w w' : World} {o : Pro.Out} {v : Int} {n : Nat} {T : TypeId} {y : Value} {F : Nat} (ho : o = Pro.good v n) (hO : Only (Mine b) w w') (hR : RdAt w' b L n len dp) (hs : SizeAt F w' (fun g => w.heap.size ≤ g) (.iface T y) v) : Gives b L len dp a w o (.returned (.tuple #[.iface T y, .nilIface])) w' := by
  subst ho; exact ⟨hO, hR, .inl ⟨rfl, T, y, F, rfl, hs⟩⟩
theorem Gives.bad {b : Nat} {L : List (Int × Int)} {len dp : Int} {a : Nat → Addr} {w w' : World} {o : Pro.Out} {k : Nat} {p : Int} {n : Nat} {v : Value} (ho : o = Pro.bad k p n) (hk : k ≠ 0) (hO : Only (Mine b) w w') (hR : RdAt w' b L n len dp) (hv : FaultAt w' w.heap.size v (sentV a k) p) : Gives b L len dp a w o (.returned (.tuple #[.nilIface, v])) w' := by
  subst ho; exact ⟨hO, hR, .inr ⟨hk, v, rfl, hv⟩⟩
/-- A leaf that is told is a part of size 1. -/
theorem Tells.gives {b : Nat} {L : List (Int × Int)} {len dp : Int} {a : Nat → Addr} {w w' : World} {o : Pro.Out} {T : TypeId} {y : Value} {x : Ending} (h : Tells b L len dp a w o (.iface T y) .nilIface x w') (hT : leafT T) : Gives b L len dp a w (Pro.one o) x w' := by
  obtain ⟨hO, hR, h⟩ := h
  refine ⟨hO, by rw [Pro.one_n]; exact hR, ?_⟩
  rcases h with ⟨hk, hx⟩ | ⟨hk, v, hx, hv⟩
  · refine .inl ⟨by rw [Pro.one_k]; exact hk, T, y, 1, hx, ?_⟩
    rw [Pro.one_v _ hk]; exact SizeAt.leaf _ _ _ _ hT
  · have : Pro.one o = o := by unfold Pro.one; rw [if_neg hk]
    rw [this]; exact .inr ⟨hk, v, hx, hv⟩
/-- What is given is a pair. -/
theorem Gives.pair {b : Nat} {L : List (Int × Int)} {len dp : Int} {a : Nat → Addr} {w w' : World} {o : Pro.Out} {x : Ending} (h : Gives b L len dp a w o x w') : ∃ p q, x = .returned (.tuple #[p, q]) := by
  obtain ⟨_, _, ⟨_, T, y, F, hx, _⟩ | ⟨_, v, hx, _⟩⟩ := h
  · exact ⟨_, _, hx⟩
  · exact ⟨_, _, hx⟩
theorem setB_leaf (m : Bool) (c : Int) : ∃ T y, oneV m c = .iface T y ∧ leafT T := by
  cases m
  · exact ⟨_, _, rfl, .inr (.inr (.inl rfl))⟩
  · exact ⟨_, _, rfl, .inr (.inr (.inr (.inl rfl)))⟩

set_option maxHeartbeats 4000000 in
set_option maxRecDepth 1000000 in
theorem patom_any (b : Nat) (L : List (Int × Int)) (n : Nat) (len dp : Int) (a : Nat → Addr) (D : Nat → Pro.Out) (w : World) (h : RdAt w b L n len dp) (hS : Sents w a) (hb : 10 ≤ b) (hL : L.length ≤ 400) (hn : n < L.length) (hF : Pro.Fit L) (hG : GroupOK b L len dp a D) :
    Calls Tryz.prog 105 #[.pointer (some ⟨b, 0, none⟩)] w (Gives b L len dp a w (Pro.atomO L len D n)) := by
  have T := hide (Trk.start h hS hb)
  have HR := hide h
  have HS := hide hS
  have c1 := h.c1
  have f1 := h.f1
  have HG := hide hG
  clear h hS hG
  cases hw : Pro.wrongL (Pro.letAt L n)
  · have hq : (Pro.letAt L n == 42) = false ∧ (Pro.letAt L n == 43) = false ∧ (Pro.letAt L n == 63) = false ∧ (Pro.letAt L n == 123) = false ∧ (Pro.letAt L n == 125) = false ∧ (Pro.letAt L n == 93) = false := by
      unfold Pro.wrongL at hw; simpa [and_assoc] using hw
    obtain ⟨q1, q2, q3, q4, q5, q6⟩ := hq
    by_cases h40 : Pro.letAt L n = 40
    · have HO : Hid (Pro.atomO L len D n = D n) := by unfold Pro.atomO; rw [if_neg (by simp [hw]), if_pos h40]; rfl
      have h40' : (Pro.letAt L n == 40) = true := by simp [h40]
      clear h40 hw
      go_enter Tryz.func105, Tryz.ntmps105
      go_wp2_with (first | (go_at_call 89; refine (peek_t (n := n) (by first | exact unhide T | exact (unhide T).drewN _ | exact ((unhide T).drewN _).drewN _ | exact (unhide T).setN _ _ (by omega) | exact ((unhide T).drewN _).setN _ _ (by omega) | exact ((unhide T).setN _ _ (by omega)).drewN _ | exact (((unhide T).drewN _).setN _ _ (by omega)).drewN _) hL (by omega)).mono ?_; rintro e wq ⟨rfl, hwq⟩; have hwr := hwq.symm; subst hwr; clear hwq) | (go_at_call 114; refine (unhide HG n _ (unhide HR) (unhide HS) hn).mono ?_; intro e w1 hg; obtain ⟨p1, p2, rfl⟩ := hg.pair; have Hg := hide hg; clear hg))
      go_ret2
      rw [unhide HO]
      exact unhide Hg
    · have h40' : (Pro.letAt L n == 40) = false := by simp [h40]
      by_cases h91 : Pro.letAt L n = 91
      · have HO : Hid (Pro.atomO L len D n = Pro.one (Pro.classP L len n)) := by unfold Pro.atomO; rw [if_neg (by simp [hw]), if_neg h40, if_pos h91]; rfl
        have h91' : (Pro.letAt L n == 91) = true := by simp [h91]
        clear h91 hw h40
        go_enter Tryz.func105, Tryz.ntmps105
        go_wp2_with (first | (go_at_call 89; refine (peek_t (n := n) (by first | exact unhide T | exact (unhide T).drewN _ | exact ((unhide T).drewN _).drewN _ | exact (unhide T).setN _ _ (by omega) | exact ((unhide T).drewN _).setN _ _ (by omega) | exact ((unhide T).setN _ _ (by omega)).drewN _ | exact (((unhide T).drewN _).setN _ _ (by omega)).drewN _) hL (by omega)).mono ?_; rintro e wq ⟨rfl, hwq⟩; have hwr := hwq.symm; subst hwr; clear hwq) | (go_at_call 115; refine (pclass_any b L n len dp a _ (unhide HR) (unhide HS) hb hL hn hF).mono ?_; rintro e w1 ⟨cv, hc⟩; have hg := hc.gives (.inr (.inr (.inr (.inr rfl)))); obtain ⟨p1, p2, rfl⟩ := hg.pair; have Hg := hide hg; clear hg hc))
        go_ret2
        rw [unhide HO]
        exact unhide Hg
      · have h91' : (Pro.letAt L n == 91) = false := by simp [h91]
        by_cases h92 : Pro.letAt L n = 92
        · have HO : Hid (Pro.atomO L len D n = Pro.one (Pro.escO L len n)) := by unfold Pro.atomO; rw [if_neg (by simp [hw]), if_neg h40, if_neg h91, if_pos h92]; rfl
          have h92' : (Pro.letAt L n == 92) = true := by simp [h92]
          clear h91 hw h40 h92
          obtain ⟨TT, yy, hy, hlf⟩ := setB_leaf (Pro.setB (Pro.letAt L (n + 1))) (Pro.escO L len n).v
          have Hy := hide hy
          have Hlf := hide hlf
          clear hy hlf
          go_enter Tryz.func105, Tryz.ntmps105
          go_wp2_with (first | (go_at_call 89; refine (peek_t (n := n) (by first | exact unhide T | exact (unhide T).drewN _ | exact ((unhide T).drewN _).drewN _ | exact (unhide T).setN _ _ (by omega) | exact ((unhide T).drewN _).setN _ _ (by omega) | exact ((unhide T).setN _ _ (by omega)).drewN _ | exact (((unhide T).drewN _).setN _ _ (by omega)).drewN _) hL (by omega)).mono ?_; rintro e wq ⟨rfl, hwq⟩; have hwr := hwq.symm; subst hwr; clear hwq) | (go_at_call 116; refine (pescape_any b L n len dp a _ (unhide HR) (unhide HS) hb hL hn hF).mono ?_; intro e w1 hc; rw [unhide Hy] at hc; have hg := hc.gives (unhide Hlf); obtain ⟨p1, p2, rfl⟩ := hg.pair; have Hg := hide hg; clear hg hc))
          go_ret2
          rw [unhide HO]
          exact unhide Hg
        · have h92' : (Pro.letAt L n == 92) = false := by simp [h92]
          have HO : Hid (Pro.atomO L len D n = Pro.good 1 (n + 1)) := by unfold Pro.atomO; rw [if_neg (by simp [hw]), if_neg h40, if_neg h91, if_neg h92]; rfl
          clear h91 hw h40 h92
          have hdot : (Pro.letAt L n == 46) = true ∨ (Pro.letAt L n == 46) = false := by cases (Pro.letAt L n == 46) <;> simp
          rcases hdot with hd | hd
          · go_enter Tryz.func105, Tryz.ntmps105
            go_wp2_with (first | (go_at_call 89; refine (peek_t (n := n) (by first | exact unhide T | exact (unhide T).drewN _ | exact ((unhide T).drewN _).drewN _ | exact (unhide T).setN _ _ (by omega) | exact ((unhide T).drewN _).setN _ _ (by omega) | exact ((unhide T).setN _ _ (by omega)).drewN _ | exact (((unhide T).drewN _).setN _ _ (by omega)).drewN _) hL (by omega)).mono ?_; rintro e wq ⟨rfl, hwq⟩; have hwr := hwq.symm; subst hwr; clear hwq))
            go_ret2
            exact Gives.good (unhide HO) ((Only.refl _ _).mine _ _) ((unhide HR).setN _ _ (by omega)) (SizeAt.leaf _ _ _ _ (.inr (.inl rfl)))
          · go_enter Tryz.func105, Tryz.ntmps105
            go_wp2_with (first | (go_at_call 89; refine (peek_t (n := n) (by first | exact unhide T | exact (unhide T).drewN _ | exact ((unhide T).drewN _).drewN _ | exact (unhide T).setN _ _ (by omega) | exact ((unhide T).drewN _).setN _ _ (by omega) | exact ((unhide T).setN _ _ (by omega)).drewN _ | exact (((unhide T).drewN _).setN _ _ (by omega)).drewN _) hL (by omega)).mono ?_; rintro e wq ⟨rfl, hwq⟩; have hwr := hwq.symm; subst hwr; clear hwq))
            go_ret2
            exact Gives.good (unhide HO) ((Only.refl _ _).mine _ _) ((unhide HR).setN _ _ (by omega)) (SizeAt.leaf _ _ _ _ (.inr (.inr (.inl rfl))))
  · have HO : Hid (Pro.atomO L len D n = Pro.bad 3 (Pro.placeAt L len n) n) := by unfold Pro.atomO; rw [if_pos hw]; rfl
    have hq : (Pro.letAt L n == 42) = true ∨ (Pro.letAt L n == 42) = false ∧ ((Pro.letAt L n == 43) = true ∨ (Pro.letAt L n == 43) = false ∧ ((Pro.letAt L n == 63) = true ∨ (Pro.letAt L n == 63) = false ∧ ((Pro.letAt L n == 123) = true ∨ (Pro.letAt L n == 123) = false ∧ ((Pro.letAt L n == 125) = true ∨ (Pro.letAt L n == 125) = false ∧ (Pro.letAt L n == 93) = true)))) := by
      unfold Pro.wrongL at hw
      cases hq1 : (Pro.letAt L n == 42) <;> cases hq2 : (Pro.letAt L n == 43) <;> cases hq3 : (Pro.letAt L n == 63) <;> cases hq4 : (Pro.letAt L n == 123) <;> cases hq5 : (Pro.letAt L n == 125) <;> cases hq6 : (Pro.letAt L n == 93) <;> simp_all
    clear hw
    rcases hq with q1 | ⟨q1, q2 | ⟨q2, q3 | ⟨q3, q4 | ⟨q4, q5 | ⟨q5, q6⟩⟩⟩⟩⟩
    all_goals
      go_enter Tryz.func105, Tryz.ntmps105
      go_wp2_with (first | (go_at_call 89; refine (peek_t (n := n) (by first | exact unhide T | exact (unhide T).drewN _ | exact ((unhide T).drewN _).drewN _ | exact (unhide T).setN _ _ (by omega) | exact ((unhide T).drewN _).setN _ _ (by omega) | exact ((unhide T).setN _ _ (by omega)).drewN _ | exact (((unhide T).drewN _).setN _ _ (by omega)).drewN _) hL (by omega)).mono ?_; rintro e wq ⟨rfl, hwq⟩; have hwr := hwq.symm; subst hwr; clear hwq) | (go_at_call 50; refine (wrong_t (n := n) (by first | exact unhide T | exact (unhide T).drewN _ | exact ((unhide T).drewN _).drewN _ | exact (unhide T).setN _ _ (by omega) | exact ((unhide T).drewN _).setN _ _ (by omega) | exact ((unhide T).setN _ _ (by omega)).drewN _ | exact (((unhide T).drewN _).setN _ _ (by omega)).drewN _) hL (by omega)).mono ?_; rintro e wq ⟨v, rfl, hv, tq⟩; have T := hide tq; have c1 := tq.c1; have f1 := tq.f1))
      go_ret2
      exact Gives.bad (unhide HO) (by decide) (Own.to (unhide T).on) (unhide T).rd hv
end Go.Proofs.YtdhmllobgijggaaGreatDoor
namespace Go.Proofs.YtdhmllobgijggaaGreatDoor
open Go.RowKit

theorem Gives.after {b : Nat} {L : List (Int × Int)} {len dp : Int} {a : Nat → Addr} {w w1 w' : World} {o : Pro.Out} {x : Ending} (hO : Only (Mine b) w w1) (h : Gives b L len dp a w1 o x w') : Gives b L len dp a w o x w' := by
  obtain ⟨h1, h2, h3⟩ := h
  refine ⟨hO.trans h1, h2, ?_⟩
  rcases h3 with ⟨hk, T, y, F, hx, hs⟩ | ⟨hk, v, hx, hv⟩
  · exact .inl ⟨hk, T, y, F, hx, SizeAt.mono (fun g _ hg => Nat.le_trans hO.size hg) F _ _ hs⟩
  · exact .inr ⟨hk, v, hx, hv.base hO.size⟩
theorem gives_yes {b : Nat} {L : List (Int × Int)} {len dp : Int} {a : Nat → Addr} {w w' : World} {o : Pro.Out} {x : Ending} (h : Gives b L len dp a w o x w') (hk : o.k = 0) : ∃ T y F, x = .returned (.tuple #[.iface T y, .nilIface]) ∧ SizeAt F w' (fun g => w.heap.size ≤ g) (.iface T y) o.v ∧ Only (Mine b) w w' ∧ RdAt w' b L o.n len dp := by
  obtain ⟨h1, h2, ⟨_, T, y, F, hx, hs⟩ | ⟨h3, _⟩⟩ := h
  · exact ⟨T, y, F, hx, hs, h1, h2⟩
  · exact absurd hk h3
theorem gives_no {b : Nat} {L : List (Int × Int)} {len dp : Int} {a : Nat → Addr} {w w' : World} {o : Pro.Out} {x : Ending} (h : Gives b L len dp a w o x w') (hk : o.k ≠ 0) : ∃ g, x = .returned (.tuple #[.nilIface, .iface 136 (.pointer (some ⟨g, 0, none⟩))]) ∧ FaultAt w' w.heap.size (.iface 136 (.pointer (some ⟨g, 0, none⟩))) (sentV a o.k) o.p ∧ Only (Mine b) w w' ∧ RdAt w' b L o.n len dp := by
  obtain ⟨h1, h2, ⟨h3, _⟩ | ⟨_, v, hx, hv⟩⟩ := h
  · exact absurd h3 hk
  · obtain ⟨g, rfl⟩ := hv.form
    exact ⟨g, hx, hv, h1, h2⟩
/-- What 'quantified' makes of a part. -/
theorem Quants.gives {b : Nat} {L : List (Int × Int)} {len dp : Int} {a : Nat → Addr} {w w1 w' : World} {T : TypeId} {y : Value} {z : Int} {F : Nat} {n : Nat} {x : Ending} {o : Pro.Out} (hlt : b < w.heap.size) (hO : Only (Mine b) w w1) (hs : SizeAt F w1 (fun g => w.heap.size ≤ g) (.iface T y) z) (h : Quants b L len dp a w1 (.iface T y) (Pro.quantO L len n) x w')
    (h0 : (Pro.quantO L len n).1 = false → o.k = 0 ∧ o.v = z ∧ o.n = (Pro.quantO L len n).2.1.n) (h1 : (Pro.quantO L len n).1 = true → (Pro.quantO L len n).2.1.k ≠ 0 → o = (Pro.quantO L len n).2.1)
    (h2 : (Pro.quantO L len n).1 = true → (Pro.quantO L len n).2.1.k = 0 → o = Pro.good (min (Pro.repS z (Pro.quantO L len n).2.1.v (Pro.quantO L len n).2.2) 301) (Pro.lazyN L (Pro.quantO L len n).2.1.n)) : Gives b L len dp a w o x w' := by
  obtain ⟨hO', h⟩ := h
  have hs' := SizeAt.keep hO' (A := fun g => w.heap.size ≤ g) (fun g hg e => by unfold Mine at e; subst e; exact absurd hlt (Nat.not_lt.2 hg)) F _ _ hs
  rcases h with ⟨hq, hx, hR⟩ | ⟨hq, hk, hx, hR⟩ | ⟨hq, hk, hR, v, hx, hv⟩
  · obtain ⟨e1, e2, e3⟩ := h0 hq
    exact ⟨hO.trans hO', by rw [e3]; exact hR, .inl ⟨e1, T, y, F, hx, by rw [e2]; exact hs'⟩⟩
  · subst hx
    refine Gives.good (F := F + 1) (h2 hq hk) (hO.trans hO') hR ?_
    have hv := Pro.quantO_v (L := L) (len := len) n hq hk
    exact .inr (.inr (.inr ⟨_, _, _, z, rfl, hs', hv.1, hv.2.1, hv.2.2.1, hv.2.2.2.1, hv.2.2.2.2, rfl⟩))
  · rw [h1 hq hk]
    exact ⟨hO.trans hO', hR, .inr ⟨hk, v, hx, hv.base hO.size⟩⟩
theorem Quants.pair {b : Nat} {L : List (Int × Int)} {len dp : Int} {a : Nat → Addr} {w w' : World} {p : Value} {o : Bool × Pro.Out × Int} {x : Ending} (h : Quants b L len dp a w p o x w') : ∃ p q, x = .returned (.tuple #[p, q]) := by
  obtain ⟨_, ⟨_, h, _⟩ | ⟨_, _, h, _⟩ | ⟨_, _, _, v, h, _⟩⟩ := h
  · exact ⟨_, _, h⟩
  · exact ⟨_, _, h⟩
  · exact ⟨_, _, h⟩

theorem as_no {k : Nat} {x : Ending} (h : (k ≠ 0 ∧ ∃ c, x = .returned (.tuple #[.int .i64 c, .bool true])) ∨ (k = 0 ∧ x = .returned (.tuple #[.int .i64 0, .bool false]))) (hk : k = 0) : True ∧ x = .returned (.tuple #[.int .i64 0, .bool false]) := by
  rcases h with ⟨h, _⟩ | ⟨_, h⟩
  · exact absurd hk h
  · exact ⟨trivial, h⟩
theorem as_yes {k : Nat} {x : Ending} (h : (k ≠ 0 ∧ ∃ c, x = .returned (.tuple #[.int .i64 c, .bool true])) ∨ (k = 0 ∧ x = .returned (.tuple #[.int .i64 0, .bool false]))) (hk : k ≠ 0) : True ∧ ∃ c, x = .returned (.tuple #[.int .i64 c, .bool true]) := by
  rcases h with ⟨_, h⟩ | ⟨h, _⟩
  · exact ⟨trivial, h⟩
  · exact absurd h hk
set_option maxHeartbeats 4000000 in
set_option maxRecDepth 1000000 in
theorem term_any (b : Nat) (L : List (Int × Int)) (n : Nat) (len dp : Int) (a : Nat → Addr) (D : Nat → Pro.Out) (w : World) (h : RdAt w b L n len dp) (hS : Sents w a) (hb : 10 ≤ b) (hL : L.length ≤ 400) (hn : n < L.length) (hF : Pro.Fit L) (hG : GroupOK b L len dp a D) (hD : Pro.DOK L D) :
    Calls Tryz.prog 90 #[.pointer (some ⟨b, 0, none⟩)] w (Gives b L len dp a w (Pro.termO L len D n)) := by
  have hlt := h.lt
  have HR := hide h
  have HS := hide hS
  have HG := hide hG
  have HD := hide hD
  clear h hS hG hD
  by_cases has : Pro.asN L n = 0
  · have hin := Pro.atomO_in (len := len) (unhide HD) n hn
    by_cases hk : (Pro.atomO L len D n).k = 0
    · go_enter Tryz.func90, Tryz.ntmps90
      go_wp2_with (first
        | (go_at_call 104; refine (assertion_any b L n len dp a _ (unhide HR) (unhide HS) hb hL (by omega)).mono ?_; rintro e w1 ⟨hO1, hR1, hT1⟩; rw [has] at hR1; obtain ⟨_, rfl⟩ := as_no hT1 has; clear hT1; have HR1 := hide hR1; have HS1 := hide ((unhide HS).mine hO1 hb); have HO1 := hide hO1; clear hR1 hO1)
        | (go_at_call 105; refine (patom_any b L n len dp a D _ (unhide HR1) (unhide HS1) hb hL hn hF (unhide HG)).mono ?_; intro e w2 hg; obtain ⟨T2, y2, F2, rfl, hs2, hO2, hR2⟩ := gives_yes (hg.after (unhide HO1)) hk; have Hs2 := hide hs2; have HO2 := hide hO2; have HR2 := hide hR2; have HS2 := hide ((unhide HS).mine hO2 hb); clear hg hs2 hO2 hR2)
        | (go_at_call 106; refine (quantified_any b L (Pro.atomO L len D n).n len dp a _ T2 y2 (unhide HR2) (unhide HS2) hb hL hin.2.1 hF).mono ?_; intro e w3 hq; obtain ⟨p1, p2, rfl⟩ := hq.pair; have Hq := hide hq; clear hq))
      go_ret2
      refine (unhide Hq).gives hlt (unhide HO2) (unhide Hs2) ?_ ?_ ?_
      · intro hq0
        have hqn := (Pro.quantO_in (L := L) (len := len) (Pro.atomO L len D n).n hin.2.1).2.2 hq0
        unfold Pro.termO
        rw [if_neg (by simp [has]), if_neg (by simp [hk]), if_pos hq0, hqn]
        exact ⟨hk, rfl, rfl⟩
      · intro hq1 hk2
        unfold Pro.termO
        rw [if_neg (by simp [has]), if_neg (by simp [hk]), if_neg (by simp [hq1]), if_pos hk2]
      · intro hq1 hk2
        unfold Pro.termO
        rw [if_neg (by simp [has]), if_neg (by simp [hk]), if_neg (by simp [hq1]), if_neg (by simp [hk2])]
    · have HO : Hid (Pro.termO L len D n = Pro.atomO L len D n) := by unfold Pro.termO; rw [if_neg (by simp [has]), if_pos hk]; rfl
      go_enter Tryz.func90, Tryz.ntmps90
      go_wp2_with (first
        | (go_at_call 104; refine (assertion_any b L n len dp a _ (unhide HR) (unhide HS) hb hL (by omega)).mono ?_; rintro e w1 ⟨hO1, hR1, hT1⟩; rw [has] at hR1; obtain ⟨_, rfl⟩ := as_no hT1 has; clear hT1; have HR1 := hide hR1; have HS1 := hide ((unhide HS).mine hO1 hb); have HO1 := hide hO1; clear hR1 hO1)
        | (go_at_call 105; refine (patom_any b L n len dp a D _ (unhide HR1) (unhide HS1) hb hL hn hF (unhide HG)).mono ?_; intro e w2 hg; obtain ⟨g2, rfl, hv2, hO2, hR2⟩ := gives_no (hg.after (unhide HO1)) hk; have Hv2 := hide hv2; have HO2 := hide hO2; have HR2 := hide hR2; clear hg hv2 hO2 hR2))
      go_ret2
      rw [unhide HO]
      exact ⟨unhide HO2, unhide HR2, .inr ⟨hk, _, rfl, unhide Hv2⟩⟩
  · have HO : Hid (Pro.termO L len D n = Pro.good 1 (n + Pro.asN L n)) := by unfold Pro.termO; rw [if_pos has]; rfl
    go_enter Tryz.func90, Tryz.ntmps90
    go_wp2_with (go_at_call 104; refine (assertion_any b L n len dp a _ (unhide HR) (unhide HS) hb hL (by omega)).mono ?_; rintro e w1 ⟨hO1, hR1, hT1⟩; obtain ⟨_, c, rfl⟩ := as_yes hT1 has; clear hT1; have HR1 := hide hR1; have HO1 := hide hO1; clear hR1 hO1)
    go_ret2
    exact Gives.good (unhide HO) (unhide HO1) (unhide HR1) (SizeAt.leaf _ _ _ _ (.inl rfl))
end Go.Proofs.YtdhmllobgijggaaGreatDoor
namespace Go.Proofs.YtdhmllobgijggaaGreatDoor
open Go.RowKit

/-- Blocks from a number on, but for a slice's own. -/
def Apart (base : Nat) (sv : Value) (g : Nat) : Prop := base ≤ g ∧ sv.ownBlock ≠ some g

theorem Sizes.keep {P A : Nat → Prop} {f : Nat} {w w' : World} {xs : List Value} {zs : List Int} (h : Sizes f w A xs zs) (k : Only P w w') (hn : ∀ g, A g → ¬ P g) : Sizes f w' A xs zs := ⟨h.1, fun j x z hx hz => SizeAt.keep k hn f x z (h.2 j x z hx hz)⟩
theorem Sizes.mono {A B : Nat → Prop} {f : Nat} {w : World} {xs : List Value} {zs : List Int} (h : Sizes f w A xs zs) (hAB : ∀ g, g < w.heap.size → A g → B g) : Sizes f w B xs zs := ⟨h.1, fun j x z hx hz => SizeAt.mono hAB f x z (h.2 j x z hx hz)⟩

/-- Behind 'append' a row of parts is one longer. -/
theorem row_grow {b base : Nat} {wr w3 W w4 : World} {sv sv' x : Value} {T : TypeId} {xs : List Value} {zs : List Int} {z : Int} {F G : Nat} (hbase : base ≤ wr.heap.size) (hbl : b < base) (hown : wr.ownsRow base T 1 sv xs.length xs) (hsz : Sizes F wr (Apart base sv) xs zs) (hO : Only (Mine b) wr w3) (hx : SizeAt G w3 (fun g => wr.heap.size ≤ g) x z)
    (hW : Only (fun _ => False) w3 W) (hg : W.grownBy w4 sv.ownBlock) (hsep : ∀ k, sv'.ownBlock = some k → sv.ownBlock = some k ∨ W.heap.size ≤ k) : Sizes (max F G) w4 (Apart base sv') (xs ++ [x]) (zs ++ [z]) := by
  have h1 : Sizes F w3 (Apart base sv) xs zs := hsz.keep hO (fun g hg e => by unfold Mine at e; have := hg.1; omega)
  have hx1 : SizeAt G w3 (Apart base sv) x z := SizeAt.mono (fun g _ hg => ⟨Nat.le_trans hbase hg, fun e => by have := (ownsRow_block hown g e).2; omega⟩) G x z hx
  have h2 := (h1.append hx1).keep hW (fun _ _ f => f)
  have h3 : Sizes (max F G) W (fun g => Apart base sv g ∧ g < W.heap.size) (xs ++ [x]) (zs ++ [z]) := h2.mono (fun g hl hg => ⟨hg, hl⟩)
  have h4 := h3.keep (Only.ofGrown hg) (fun g hg e => hg.1.2 e)
  exact h4.mono (fun g _ hg => ⟨hg.1.1, fun e => by
    rcases hsep g e with h | h
    · exact hg.1.2 h
    · have := hg.2; omega⟩)
theorem row_of {base : Nat} {w : World} {T : TypeId} {sv : Value} {xs : List Value} (h : w.ownsRow base T 1 sv xs.length xs) : RowAt w (fun g => base ≤ g) sv xs := by
  have hl := ownsRow_block h
  have hc := @World.ownsRow.cells w base T 1 sv xs.length xs h
  rcases h.2 with ⟨rfl, h0⟩ | ⟨g, cap, cur, rfl, hb, hg, hn, _⟩
  · exact .inl ⟨rfl, List.eq_nil_of_length_eq_zero h0⟩
  · exact .inr ⟨g, cap, rfl, hb, hn, (hl g rfl).2, fun j x hj => by
      have := hc (g := g) rfl j x hj
      have e : (⟨g, 0, none⟩ : Addr).add j = ⟨g, j, none⟩ := by unfold Addr.add; split <;> simp_all
      rw [e] at this; exact this⟩
theorem Pro.sumS_append : ∀ (zs : List Int) (t z : Int), Pro.sumS t (zs ++ [z]) = min (Pro.sumS t zs + z) 301
  | [], _t, _z => rfl
  | y :: r, t, z => Pro.sumS_append r (min (t + y) 301) z
theorem Tryz.infoPt : (Tryz.prog.info? 66).map (fun i => (i.zero, i.size, i.bytes)) = some (some .nilIface, 1, 16) := by kernel_rfl

set_option maxHeartbeats 4000000 in
set_option maxRecDepth 1000000 in
theorem terms_any (b : Nat) (L : List (Int × Int)) (n : Nat) (len dp : Int) (a : Nat → Addr) (D : Nat → Pro.Out) (w : World) (h : RdAt w b L n len dp) (hS : Sents w a) (hb : 10 ≤ b) (hL : L.length ≤ 400) (hn : n ≤ L.length) (hF : Pro.Fit L) (hG : GroupOK b L len dp a D) (hD : Pro.DOK L D) :
    Calls Tryz.prog 70 #[.pointer (some ⟨b, 0, none⟩)] w (Gives b L len dp a w (Pro.termsP L len D n)) := by
  obtain ⟨i0, hi, hz0, hz1, hz2⟩ := info_parts Tryz.infoPt
  have hlt := h.lt
  have HS := hide hS
  have HG := hide hG
  have HD := hide hD
  clear hS hG hD
  go_enter Tryz.func70, Tryz.ntmps70
  go_wp2_with fail
  go_loopw [4] (fun sv wr => ∃ (m f F : Nat) (xs : List Value) (zs : List Int), m ≤ L.length ∧ xs.length ≤ m ∧ Hid (L.length < m + f) ∧ Hid (RdAt wr b L m len dp) ∧ Hid (Only (Mine b) w wr) ∧ Hid (wr.ownsRow w.heap.size 66 1 sv xs.length xs) ∧ Hid (Sizes F wr (Apart w.heap.size sv) xs zs) ∧ Hid (Pro.termsP L len D n = Pro.termsO L len D f (Pro.sumS 0 zs) m)) (fun _ wr => L.length - rdN wr b)
  case atStart => exact ⟨n, L.length + 1 - n, 0, [], [], hn, by simp, (by show _ < _; omega), h, Only.refl _ _, World.ownsRow_nil _ _ _ _, ⟨rfl, fun j x z hx => by simp at hx⟩, rfl⟩
  case round =>
    obtain ⟨m, f, F, xs, zs, hm, hxl, hf, HR, HO, Hown, Hsz, HF⟩ := hrel
    obtain ⟨f, rfl⟩ : ∃ f', f = f' + 1 := ⟨f - 1, by have := unhide hf; omega⟩
    have T := hide (Trk.start (unhide HR) ((unhide HS).mine (unhide HO) hb) hb)
    have hrd := (unhide T).rdN
    cases hst : Pro.stopB L m
    · have hml : m < L.length := by unfold Pro.stopB at hst; simp at hst; omega
      have he : ((m : Int) == (L.length : Int)) = false := by simp; omega
      have hp1 : (Pro.letAt L m != 124) = true := by unfold Pro.stopB at hst; simp at hst ⊢; omega
      have hp2 : (Pro.letAt L m != 41) = true := by unfold Pro.stopB at hst; simp at hst ⊢; omega
      have hin := Pro.termO_in (len := len) (unhide HD) m hml
      by_cases hk : (Pro.termO L len D m).k = 0
      · have HO1 : Hid (Pro.termsP L len D n = Pro.termsO L len D f (min (Pro.sumS 0 zs + (Pro.termO L len D m).v) 301) (Pro.termO L len D m).n) := by rw [unhide HF]; simp only [Pro.termsO]; rw [if_neg (by simp [hst]), if_neg (by simp [hk])]; rfl
        obtain ⟨sa, sn, sc, rfl⟩ := own_slice (unhide Hown)
        go_wp2_with (first
          | (go_at_call 49; refine (atEnd_t (n := m) (by first | exact unhide T | exact (unhide T).drewN _ | exact ((unhide T).drewN _).drewN _ | exact (unhide T).setN _ _ (by omega) | exact ((unhide T).drewN _).setN _ _ (by omega) | exact ((unhide T).setN _ _ (by omega)).drewN _ | exact (((unhide T).drewN _).setN _ _ (by omega)).drewN _)).mono ?_; rintro e wq ⟨rfl, qq, rfl⟩)
          | (go_at_call 89; refine (peek_t (n := m) (by first | exact unhide T | exact (unhide T).drewN _ | exact ((unhide T).drewN _).drewN _ | exact (unhide T).setN _ _ (by omega) | exact ((unhide T).drewN _).setN _ _ (by omega) | exact ((unhide T).setN _ _ (by omega)).drewN _ | exact (((unhide T).drewN _).setN _ _ (by omega)).drewN _) hL (by omega)).mono ?_; rintro e wq ⟨rfl, hwq⟩; have hwr := hwq.symm; subst hwr; clear hwq)
          | (go_at_call 90; refine (term_any b L m len dp a D _ (Trk.rd (n := m) (by first | exact unhide T | exact (unhide T).drewN _ | exact ((unhide T).drewN _).drewN _ | exact (unhide T).setN _ _ (by omega) | exact ((unhide T).drewN _).setN _ _ (by omega) | exact ((unhide T).setN _ _ (by omega)).drewN _ | exact (((unhide T).drewN _).setN _ _ (by omega)).drewN _)) (Trk.se (n := m) (by first | exact unhide T | exact (unhide T).drewN _ | exact ((unhide T).drewN _).drewN _ | exact (unhide T).setN _ _ (by omega) | exact ((unhide T).drewN _).setN _ _ (by omega) | exact ((unhide T).setN _ _ (by omega)).drewN _ | exact (((unhide T).drewN _).setN _ _ (by omega)).drewN _)) hb hL hml hF (unhide HG) (unhide HD)).mono ?_; intro e w3 hg; obtain ⟨T3, y3, F3, rfl, hs3, hO3, hR3⟩ := gives_yes hg hk; have hO3 : Only (Mine b) wr w3 := ((Only.refl (Mine b) wr).drewN _).trans hO3; have Hs3 : Hid (SizeAt F3 w3 (fun g => wr.heap.size ≤ g) (.iface T3 y3) (Pro.termO L len D m).v) := hs3; have HO3 := hide hO3; have HR3 := hide hR3; have hsz3 := hO3.size; have Hown3 := hide (ownsRow_keep (unhide Hown) hO3 (fun g hg e => by unfold Mine at e; have := (ownsRow_block (unhide Hown) g hg).1; omega)); clear hg hs3 hO3 hR3)
          | (at_builtin; refine append_sep _ rfl _ _ 122 rfl w.heap.size 66 i0 .nilIface 1 16 Tryz.underlying122 hi hz0 hz1 hz2 rfl (by decide) _ _ xs rfl (World.ownsRow.alloc (unhide Hown3) _) _ 1 1 [.iface T3 y3] rfl rfl (cell_one_new _ _ _) (fun x hx => by simp at hx; subst hx; rfl) (by unfold maxLen; omega) (by omega) (by simp; have := (unhide HO).size; omega) ?_; intro v' w4 hown' hgrow hsep; have Hown4 := hide hown'; have Hgr := hide hgrow; have Hsep := hide hsep; clear hown' hgrow hsep))
        have hszw := (unhide HO).size
        have hO4 : Only (Mine b) w w4 := (((unhide HO).trans (unhide HO3)).alloc _).grown (unhide Hgr) (fun j hj => Or.inr (ownsRow_block (unhide Hown) j hj).1)
        have hnb : ∀ g, g ≤ b → ¬ ((Value.slice sa sn sc).ownBlock = some g) := fun g hg e => by have := (ownsRow_block (unhide Hown) g e).1; omega
        have hR4 : RdAt w4 b L (Pro.termO L len D m).n len dp := ((unhide HR3).keep ((Only.refl (fun _ => False) w3).alloc _) (fun f => f) (fun _ _ f => f)).keep (Only.ofGrown (unhide Hgr)) (hnb b (Nat.le_refl _)) (fun g hg => hnb g (by omega))
        have T4 := Trk.start hR4 ((unhide HS).mine hO4 hb) hb
        refine ⟨⟨(Pro.termO L len D m).n, f, max F F3, xs ++ [.iface T3 y3], zs ++ [(Pro.termO L len D m).v], hin.2.1, by have := (hin.2.2 hk).1; simp; omega, (by have := (hin.2.2 hk).1; have := unhide hf; show _ < _; omega), hR4, hO4, (by show World.ownsRow _ _ _ _ _ _ _; rw [List.length_append]; exact unhide Hown4), row_grow hszw hlt (unhide Hown) (unhide Hsz) (unhide HO3) (unhide Hs3) ((Only.refl _ _).alloc _) (unhide Hgr) (unhide Hsep), (by rw [Pro.sumS_append]; exact HO1)⟩, by rw [T4.rdN, hrd]; have := (hin.2.2 hk).1; omega⟩
      · have HO1 : Hid (Pro.termsP L len D n = Pro.termO L len D m) := by rw [unhide HF]; simp only [Pro.termsO]; rw [if_neg (by simp [hst]), if_pos hk]; rfl
        go_wp2_with (first
          | (go_at_call 49; refine (atEnd_t (n := m) (by first | exact unhide T | exact (unhide T).drewN _ | exact ((unhide T).drewN _).drewN _ | exact (unhide T).setN _ _ (by omega) | exact ((unhide T).drewN _).setN _ _ (by omega) | exact ((unhide T).setN _ _ (by omega)).drewN _ | exact (((unhide T).drewN _).setN _ _ (by omega)).drewN _)).mono ?_; rintro e wq ⟨rfl, qq, rfl⟩)
          | (go_at_call 89; refine (peek_t (n := m) (by first | exact unhide T | exact (unhide T).drewN _ | exact ((unhide T).drewN _).drewN _ | exact (unhide T).setN _ _ (by omega) | exact ((unhide T).drewN _).setN _ _ (by omega) | exact ((unhide T).setN _ _ (by omega)).drewN _ | exact (((unhide T).drewN _).setN _ _ (by omega)).drewN _) hL (by omega)).mono ?_; rintro e wq ⟨rfl, hwq⟩; have hwr := hwq.symm; subst hwr; clear hwq)
          | (go_at_call 90; refine (term_any b L m len dp a D _ (Trk.rd (n := m) (by first | exact unhide T | exact (unhide T).drewN _ | exact ((unhide T).drewN _).drewN _ | exact (unhide T).setN _ _ (by omega) | exact ((unhide T).drewN _).setN _ _ (by omega) | exact ((unhide T).setN _ _ (by omega)).drewN _ | exact (((unhide T).drewN _).setN _ _ (by omega)).drewN _)) (Trk.se (n := m) (by first | exact unhide T | exact (unhide T).drewN _ | exact ((unhide T).drewN _).drewN _ | exact (unhide T).setN _ _ (by omega) | exact ((unhide T).drewN _).setN _ _ (by omega) | exact ((unhide T).setN _ _ (by omega)).drewN _ | exact (((unhide T).drewN _).setN _ _ (by omega)).drewN _)) hb hL hml hF (unhide HG) (unhide HD)).mono ?_; intro e w3 hg; obtain ⟨g3, rfl, hv3, hO3, hR3⟩ := gives_no hg hk; have Hv3 := hide hv3; have HO3 := hide hO3; have HR3 := hide hR3; clear hg hv3 hO3 hR3))
        go_ret2
        rw [unhide HO1]
        have hO3 : Only (Mine b) w w3 := ((unhide HO).drewN _).trans (unhide HO3)
        exact ⟨hO3, unhide HR3, .inr ⟨hk, _, rfl, (unhide Hv3).base (unhide HO).size⟩⟩
    · have HO1 : Hid (Pro.termsP L len D n = Pro.good (Pro.sumS 0 zs) m) := by rw [unhide HF]; simp only [Pro.termsO]; rw [if_pos hst]; rfl
      have hcs : ((m : Int) == (L.length : Int)) = true ∨ (((m : Int) == (L.length : Int)) = false ∧ (Pro.letAt L m != 124) = false) ∨ (((m : Int) == (L.length : Int)) = false ∧ (Pro.letAt L m != 124) = true ∧ (Pro.letAt L m != 41) = false) := by
        by_cases h1 : m = L.length
        · left; simp [h1]
        · right
          by_cases h2 : Pro.letAt L m = 124
          · left; exact ⟨by simp; omega, by simp [h2]⟩
          · right; exact ⟨by simp; omega, by simp [h2], by unfold Pro.stopB at hst; simp at hst ⊢; omega⟩
      rcases hcs with k1 | ⟨k1, k2⟩ | ⟨k1, k2, k3⟩
      all_goals
        go_wp2_with (first | (go_at_call 49; refine (atEnd_t (n := m) (by first | exact unhide T | exact (unhide T).drewN _ | exact ((unhide T).drewN _).drewN _ | exact (unhide T).setN _ _ (by omega) | exact ((unhide T).drewN _).setN _ _ (by omega) | exact ((unhide T).setN _ _ (by omega)).drewN _ | exact (((unhide T).drewN _).setN _ _ (by omega)).drewN _)).mono ?_; rintro e wq ⟨rfl, qq, rfl⟩) | (go_at_call 89; refine (peek_t (n := m) (by first | exact unhide T | exact (unhide T).drewN _ | exact ((unhide T).drewN _).drewN _ | exact (unhide T).setN _ _ (by omega) | exact ((unhide T).drewN _).setN _ _ (by omega) | exact ((unhide T).setN _ _ (by omega)).drewN _ | exact (((unhide T).drewN _).setN _ _ (by omega)).drewN _) hL (by omega)).mono ?_; rintro e wq ⟨rfl, hwq⟩; have hwr := hwq.symm; subst hwr; clear hwq))
        go_ret2
        have hsz := (unhide Hsz).mono (B := fun g => w.heap.size ≤ g) (fun g _ hg => hg.1)
        refine Gives.good (F := F + 1) (unhide HO1) ((unhide HO).drewN _) ((unhide HR).drewN _) ?_
        exact .inr (.inr (.inl ⟨_, xs, zs, rfl, (row_of (unhide Hown)).keep ((Only.refl (fun _ => False) _).drewN _) (fun _ _ f => f), by omega, hsz.1, fun j x z' hx hz => SizeAt.keep ((Only.refl (fun _ => False) _).drewN _) (fun _ _ f => f) F x z' (hsz.2 j x z' hx hz), rfl⟩))
end Go.Proofs.YtdhmllobgijggaaGreatDoor
