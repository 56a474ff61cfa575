/- For every two numbers the statement 'linealkeep.Kinds' answers true: which escapes, classes, sets and ranges take a character, by what it is. Its conditions: those of the given card alone (the listed package-level variables are as the program's text lays them). -/
import Derived.Test.YtfnkbmglodopkaaGreatDoorVKiC
namespace Go.Proofs.YtfnkbmglodopkaaGreatDoor
section
open Go.ChangeShapes Go.WideShapes Go.ChangeAt Go.RowKit
theorem ki_fn : Tryz.prog.funcNamed "lineal/linealkeep.Kinds" = some 9 := by kernel_rfl
theorem ki_st_i:Tryz.prog.wantsStandIn 3=false:=by kernel_rfl
theorem cardK_holds:Rows.KindsCardSaid:=
 Claim7.holds_tied_plain_at .later [] _ _ _ _
  zdG (fun _ h=>by cases h) (by as_aux_lemma=>kernel_rfl) (fun _ h=>by cases h) kinds_row_tie rfl ⟨rfl,rfl⟩ (by as_aux_lemma=>kernel_rfl) rfl
  (fun f fn hf hfn=>by
   obtain rfl:f=9:=Option.some.inj (ki_fn.symm.trans hf) |>.symm
   obtain rfl:fn=Tryz.f9:=(Option.some.inj (Tryz.func9.symm.trans hfn)).symm
   exact ⟨by as_aux_lemma=>kernel_rfl,fun j t ht=>by
    rw [Tryz.params9] at ht
    rcases j with _ |_ |j
    ·obtain rfl:t=3:=by simpa using ht.symm
     exact ki_st_i
    ·obtain rfl:t=3:=by simpa using ht.symm
     exact ki_st_i
    ·simp at ht⟩)
  (by as_aux_lemma=>kernel_rfl)
#print axioms cardK_holds
end
end Go.Proofs.YtfnkbmglodopkaaGreatDoor
