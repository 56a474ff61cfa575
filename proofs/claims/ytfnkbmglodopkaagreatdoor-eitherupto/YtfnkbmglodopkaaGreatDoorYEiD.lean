/- For every two patterns and every text, together of bounded bulk, the statement 'linealkeep.Either' answers true: two alternatives match what one of them matches; the size is told too. Its conditions: those of the given card alone (what is handed in counts at most 1048576 values and letters; the listed package-level variables are as the program's text lays them). -/
import Derived.Test.YtfnkbmglodopkaaGreatDoorYEiC
namespace Go.Proofs.YtfnkbmglodopkaaGreatDoor
section
open Go.ChangeShapes Go.WideShapes Go.ChangeAt Go.RowKit
theorem ei_fn : Tryz.prog.funcNamed "lineal/linealkeep.Either" = some 5 := by kernel_rfl
theorem J2:Tryz.prog.wantsStandIn 9=false:=by kernel_rfl
theorem cardQ_holds:Rows.EitherUptoCardSaid:=
 Claim7.holds_tied_plain_at .later [] _ _ _ _
  Yz (fun _ h=>by cases h) (by as_aux_lemma=>kernel_rfl) (fun _ h=>by cases h) eitherUpto_row_tie rfl ⟨rfl,rfl⟩ (by as_aux_lemma=>kernel_rfl) rfl
  (fun f fn hf hfn=>by
   obtain rfl:f=5:=Option.some.inj (ei_fn.symm.trans hf) |>.symm
   obtain rfl:fn=Tryz.f5:=(Option.some.inj (Tryz.func5.symm.trans hfn)).symm
   exact ⟨by as_aux_lemma=>kernel_rfl,fun j t ht=>by
    rw [Tryz.params5] at ht
    rcases j with _ |_ |_ |j
    ·obtain rfl:t=9:=by simpa using ht.symm
     exact J2
    ·obtain rfl:t=9:=by simpa using ht.symm
     exact J2
    ·obtain rfl:t=9:=by simpa using ht.symm
     exact J2
    ·simp at ht⟩)
  (by as_aux_lemma=>kernel_rfl)
#print axioms cardQ_holds
end
end Go.Proofs.YtfnkbmglodopkaaGreatDoor
