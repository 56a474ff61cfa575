/- For every two patterns and every text, together of bounded bulk, the statement 'linealkeep.Joined' answers true: the one pattern behind the other matches from a place to a place just if the first matches from there to some place and the second from there on; its size is told too. Its conditions: those of the given card alone (what is handed in counts at most 1048576 values and letters; the listed package-level variables are as the program's text lays them). -/
import Derived.Test.YtfnkbmglodopkaaGreatDoorYJoC
namespace Go.Proofs.YtfnkbmglodopkaaGreatDoor
section
open Go.ChangeShapes Go.WideShapes Go.ChangeAt Go.RowKit
theorem jo_fn : Tryz.prog.funcNamed "lineal/linealkeep.Joined" = some 4 := by kernel_rfl
theorem J8:Tryz.prog.wantsStandIn 9=false:=by kernel_rfl
theorem cardJ_holds:Rows.JoinedUptoCardSaid:=
 Claim7.holds_tied_plain_at .later [] _ _ _ _
  YD (fun _ h=>by cases h) (by as_aux_lemma=>kernel_rfl) (fun _ h=>by cases h) joinedUpto_row_tie rfl ⟨rfl,rfl⟩ (by as_aux_lemma=>kernel_rfl) rfl
  (fun f fn hf hfn=>by
   obtain rfl:f=4:=Option.some.inj (jo_fn.symm.trans hf) |>.symm
   obtain rfl:fn=Tryz.f4:=(Option.some.inj (Tryz.func4.symm.trans hfn)).symm
   exact ⟨by as_aux_lemma=>kernel_rfl,fun j t ht=>by
    rw [Tryz.params4] at ht
    rcases j with _ |_ |_ |j
    ·obtain rfl:t=9:=by simpa using ht.symm
     exact J8
    ·obtain rfl:t=9:=by simpa using ht.symm
     exact J8
    ·obtain rfl:t=9:=by simpa using ht.symm
     exact J8
    ·simp at ht⟩)
  (by as_aux_lemma=>kernel_rfl)
#print axioms cardJ_holds
end
end Go.Proofs.YtfnkbmglodopkaaGreatDoor
