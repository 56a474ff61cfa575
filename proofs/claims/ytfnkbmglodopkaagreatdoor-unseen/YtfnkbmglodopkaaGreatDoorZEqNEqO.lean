/- The letters beside the lexer's characters: where a text stops being one. The reader's faults are of the kinds 1 to 8. -/
import Derived.Test.YtfnkbmglodopkaaGreatDoorZChCChE
import Derived.Test.YtfnkbmglodopkaaGreatDoorZParAParC
namespace Go.Proofs.YtfnkbmglodopkaaGreatDoor
section
open Go.RowKit
namespace Eqv
theorem end_chars (s : ByteArray) : ∀ (f p : Nat) (acc : List (Int × Int)), s.size < p + f → p ≤ s.size →
   ((Ref.charsF s f p acc).2 = -1 ∧ (Pro.letM s f p).foldl (fun _ x => x.1 + Pro.runeN x.2) (p : Int) = s.size) ∨
   (∃ q : Nat, (Ref.charsF s f p acc).2 = q ∧ q < s.size ∧ (Pro.letM s f p).foldl (fun _ x => x.1 + Pro.runeN x.2) (p : Int) = q)
 | 0, p, acc, h, hp => by omega
 | f + 1, p, acc, h, hp => by
   by_cases hlt : p < s.size
   · have hr := read_one hlt
     cases h1 : Ref.oneF s p with
     | none =>
       rw [h1] at hr
       right
       refine ⟨p, by rw [Ref.charsF_bad hlt h1], hlt, ?_⟩
       simp only [Pro.letM]
       rw [hr]
       rfl
     | some nc =>
       obtain ⟨m, d⟩ := nc
       rw [h1] at hr
       have hb := Ref.oneF_bd h1
       have e : Pro.letM s (f + 1) p = ((p : Int), d) :: Pro.letM s f (p + m) := by
         simp only [Pro.letM]; rw [hr]; rfl
       rw [e, Ref.charsF_good hlt h1, List.foldl_cons]
       have := end_chars s f (p + m) (acc ++ [(d, (p : Int))]) (by omega) (by omega)
       rw [show (p : Int) + Pro.runeN d = ((p + m : Nat) : Int) by rw [one_len h1]; omega]
       exact this
   · left
     rw [Ref.charsF_end hlt]
     refine ⟨rfl, ?_⟩
     simp only [Pro.letM]
     rw [show Pro.readM s p = none by unfold Pro.readM; rw [if_neg hlt]]
     show (p : Int) = s.size
     omega
theorem end_told (s : ByteArray) : ((Ref.charsR s).2 = -1 ∧ Pro.endOf (Pro.letM s (s.size + 1) 0) = s.size) ∨ (0 ≤ (Ref.charsR s).2 ∧ Pro.endOf (Pro.letM s (s.size + 1) 0) = (Ref.charsR s).2 ∧ Pro.endOf (Pro.letM s (s.size + 1) 0) < s.size) := by
 rcases end_chars s (s.size + 1) 0 [] (by omega) (by omega) with ⟨h1, h2⟩ | ⟨q, h1, h2, h3⟩
 · exact .inl ⟨h1, h2⟩
 · right
   have e : Pro.endOf (Pro.letM s (s.size + 1) 0) = q := h3
   have e2 : (Ref.charsR s).2 = q := h1
   rw [e, e2]
   exact ⟨by omega, rfl, by omega⟩
end Eqv
namespace Pro
variable {L : List (Int × Int)} {len : Int}
theorem bad_k {k : Nat} (h : k ≤ 8) (p : Int) (n : Nat) : (bad k p n).k ≤ 8 := h
theorem good_k (v : Int) (n : Nat) : (good v n).k ≤ 8 := Nat.zero_le _
theorem zeroO_k (n : Nat) : (zeroO L len n).k ≤ 8 := by unfold zeroO; split; exact bad_k (by decide) _ _; exact good_k _ _
theorem controlO_k (n : Nat) : (controlO L len n).k ≤ 8 := by unfold controlO; split; exact good_k _ _; exact bad_k (by decide) _ _
theorem hexO_k : ∀ (f : Nat) (c : Int) (n : Nat), (hexO L len f c n).k ≤ 8
 | 0, c, n => good_k _ _
 | f + 1, c, n => by unfold hexO; split; exact bad_k (by decide) _ _; exact hexO_k f _ _
theorem bracedO_k : ∀ (f : Nat) (c : Int) (d n : Nat), (bracedO L len f c d n).k ≤ 8
 | 0, c, _, n => good_k _ _
 | f + 1, c, d, n => by
   unfold bracedO; split
   · exact good_k _ _
   · split; exact bad_k (by decide) _ _; exact bracedO_k f _ _ _
theorem unicodeO_k (n : Nat) : (unicodeO L len n).k ≤ 8 := by
 unfold unicodeO; split
 · exact hexO_k _ _ _
 · split; exact good_k _ _; exact hexO_k _ _ _
theorem numO_k (n : Nat) : (numO L len n).k ≤ 8 := by
 unfold numO; split
 · exact good_k _ _
 · split
   · exact zeroO_k _
   · split
     · exact controlO_k _
     · split
       · exact hexO_k _ _ _
       · split
         · exact bracedO_k _ _ _ _
         · split; exact unicodeO_k _; exact bad_k (by decide) _ _
theorem escO_k (n : Nat) : (escO L len n).k ≤ 8 := by
 unfold escO; split
 · exact good_k _ _
 · split; exact bad_k (by decide) _ _; exact numO_k _
theorem memberO_k (n : Nat) : (memberO L len n).k ≤ 8 := by
 unfold memberO; split
 · exact good_k _ _
 · split
   · exact good_k _ _
   · split; exact escO_k _; exact good_k _ _
theorem rangeO_k (m : Bool) (c : Int) (n : Nat) : (rangeO L len m c n).k ≤ 8 := by
 unfold rangeO; split
 · exact memberO_k _
 · split; exact bad_k (by decide) _ _; exact memberO_k _
theorem addO_k (n : Nat) : (addO L len n).k ≤ 8 := by
 unfold addO; split
 · exact memberO_k _
 · split; exact rangeO_k _ _ _; exact memberO_k _
theorem classO_k : ∀ (f n : Nat), (classO L len f n).k ≤ 8
 | 0, n => good_k _ _
 | f + 1, n => by
   unfold classO; split
   · exact good_k _ _
   · split
     · exact bad_k (by decide) _ _
     · split; exact addO_k _; exact classO_k f _
theorem countO_k (n : Nat) : (countO L len n).k ≤ 8 := by
 unfold countO; split
 · exact bad_k (by decide) _ _
 · split; exact bad_k (by decide) _ _; exact good_k _ _
theorem countsO_k (n : Nat) : (countsO L len n).1.k ≤ 8 := by
 unfold countsO; simp only []
 split
 · exact countO_k _
 · split
   · exact good_k _ _
   · split
     · exact bad_k (by decide) _ _
     · split
       · exact good_k _ _
       · split
         · exact countO_k _
         · split
           · exact bad_k (by decide) _ _
           · split; exact bad_k (by decide) _ _; exact good_k _ _
theorem quantO_k (n : Nat) : (quantO L len n).2.1.k ≤ 8 := by
 unfold quantO; split
 · exact good_k _ _
 · split
   · exact good_k _ _
   · split
     · exact good_k _ _
     · split; exact countsO_k _; exact good_k _ _
theorem openO_k (n : Nat) : (openO L len n).k ≤ 8 := by
 unfold openO; split
 · split
   · exact good_k _ _
   · split; exact bad_k (by decide) _ _; exact bad_k (by decide) _ _
 · exact good_k _ _
theorem oneO_k {o : Out} (h : o.k ≤ 8) : (one o).k ≤ 8 := by unfold one; split; exact good_k _ _; exact h
theorem atomO_k {D : Nat → Out} (hD : ∀ n, (D n).k ≤ 8) (n : Nat) : (atomO L len D n).k ≤ 8 := by
 unfold atomO; split
 · exact bad_k (by decide) _ _
 · split
   · exact hD _
   · split
     · exact oneO_k (classO_k _ _)
     · split; exact oneO_k (escO_k _); exact good_k _ _
theorem groupO_k {alt : Nat → Out} (hA : ∀ n, (alt n).k ≤ 8) (n : Nat) : (groupO L len alt n).k ≤ 8 := by
 unfold groupO; split
 · exact openO_k _
 · split
   · exact hA _
   · split; exact good_k _ _; exact bad_k (by decide) _ _
theorem termO_k {D : Nat → Out} (hD : ∀ n, (D n).k ≤ 8) (n : Nat) : (termO L len D n).k ≤ 8 := by
 unfold termO; split
 · exact good_k _ _
 · split
   · exact atomO_k hD _
   · split
     · exact atomO_k hD _
     · split; exact quantO_k _; exact good_k _ _
theorem termsO_k {D : Nat → Out} (hD : ∀ n, (D n).k ≤ 8) : ∀ (f : Nat) (s : Int) (n : Nat), (termsO L len D f s n).k ≤ 8
 | 0, s, n => good_k _ _
 | f + 1, s, n => by
   unfold termsO; split
   · exact good_k _ _
   · split; exact termO_k hD _; exact termsO_k hD f _ _
theorem altO_k {D : Nat → Out} (hD : ∀ n, (D n).k ≤ 8) : ∀ (f : Nat) (zs : List Int) (n : Nat), (altO L len D f zs n).k ≤ 8
 | 0, _, n => good_k _ _
 | f + 1, zs, n => by
   unfold altO; split
   · exact termsO_k hD _ _ _
   · split; exact altO_k hD f _ _; exact good_k _ _
theorem deepO_k : ∀ (r n : Nat), (deepO L len r n).k ≤ 8
 | 0, n => bad_k (by decide) _ _
 | r + 1, n => groupO_k (fun m => altO_k (deepO_k r) _ _ m) n
theorem altP_k (n : Nat) : (altP L len (deepO L len 10) n).k ≤ 8 := altO_k (deepO_k 10) _ _ n
end Pro
end
end Go.Proofs.YtfnkbmglodopkaaGreatDoor
