/- For every pattern, every text and every number of states, together of bounded bulk, the statement 'linealkeep.Anchored' answers true: between the two anchors a pattern is found just if Ends tells the whole text from its beginning. Its conditions: those of the given card alone (what is handed in counts at most 1048576 values and letters; the listed package-level variables are as the program's text lays them). -/
import Derived.Test.YtfnkbmglodopkaaGreatDoorYAnC
namespace Go.Proofs.YtfnkbmglodopkaaGreatDoor
section
open Go.ChangeShapes Go.WideShapes Go.ChangeAt Go.RowKit
theorem an_fn : Tryz.prog.funcNamed "lineal/linealkeep.Anchored" = some 11 := by kernel_rfl
theorem an_st_i:Tryz.prog.wantsStandIn 3=false:=by kernel_rfl
theorem zal:Tryz.prog.wantsStandIn 9=false:=by kernel_rfl
theorem cardA_holds:Rows.AnchoredUptoCardSaid:=
 Claim7.holds_tied_plain_at .later [] _ _ _ _
  Zp (fun _ h=>by cases h) (by as_aux_lemma=>kernel_rfl) (fun _ h=>by cases h) anchoredUpto_row_tie rfl ⟨rfl,rfl⟩ (by as_aux_lemma=>kernel_rfl) rfl
  (fun f fn hf hfn=>by
   obtain rfl:f=11:=Option.some.inj (an_fn.symm.trans hf) |>.symm
   obtain rfl:fn=Tryz.f11:=(Option.some.inj (Tryz.func11.symm.trans hfn)).symm
   exact ⟨by as_aux_lemma=>kernel_rfl,fun j t ht=>by
    rw [Tryz.params11] at ht
    rcases j with _ |_ |_ |j
    ·obtain rfl:t=9:=by simpa using ht.symm
     exact zal
    ·obtain rfl:t=9:=by simpa using ht.symm
     exact zal
    ·obtain rfl:t=3:=by simpa using ht.symm
     exact an_st_i
    ·simp at ht⟩)
  (by as_aux_lemma=>kernel_rfl)
#print axioms cardA_holds
end
end Go.Proofs.YtfnkbmglodopkaaGreatDoor
