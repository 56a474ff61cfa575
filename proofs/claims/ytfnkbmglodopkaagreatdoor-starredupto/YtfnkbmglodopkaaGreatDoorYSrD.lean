/- For every pattern and every text, together of bounded bulk, the statement 'linealkeep.Starred' answers true: a pattern with a star matches any number of times what it matches, with a plus at least once, with a question mark at most once, lazy or not; the sizes are told too. Its conditions: those of the given card alone (what is handed in counts at most 1048576 values and letters; the listed package-level variables are as the program's text lays them). -/
import Derived.Test.YtfnkbmglodopkaaGreatDoorYSrC
namespace Go.Proofs.YtfnkbmglodopkaaGreatDoor
section
open Go.ChangeShapes Go.WideShapes Go.ChangeAt Go.RowKit
theorem sr_fn : Tryz.prog.funcNamed "lineal/linealkeep.Starred" = some 6 := by kernel_rfl
theorem sr_st_b:Tryz.prog.wantsStandIn 4=false:=by kernel_rfl
theorem za1:Tryz.prog.wantsStandIn 9=false:=by kernel_rfl
theorem cardR_holds:Rows.StarredUptoCardSaid:=
 Claim7.holds_tied_plain_at .later [] _ _ _ _
  Yn (fun _ h=>by cases h) (by as_aux_lemma=>kernel_rfl) (fun _ h=>by cases h) starredUpto_row_tie rfl ⟨rfl,rfl⟩ (by as_aux_lemma=>kernel_rfl) rfl
  (fun f fn hf hfn=>by
   obtain rfl:f=6:=Option.some.inj (sr_fn.symm.trans hf) |>.symm
   obtain rfl:fn=Tryz.f6:=(Option.some.inj (Tryz.func6.symm.trans hfn)).symm
   exact ⟨by as_aux_lemma=>kernel_rfl,fun j t ht=>by
    rw [Tryz.params6] at ht
    rcases j with _ |_ |_ |j
    ·obtain rfl:t=9:=by simpa using ht.symm
     exact za1
    ·obtain rfl:t=9:=by simpa using ht.symm
     exact za1
    ·obtain rfl:t=4:=by simpa using ht.symm
     exact sr_st_b
    ·simp at ht⟩)
  (by as_aux_lemma=>kernel_rfl)
#print axioms cardR_holds
end
end Go.Proofs.YtfnkbmglodopkaaGreatDoor
