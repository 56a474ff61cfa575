/- For every pattern, every list of texts, every number of states and every list of places, together of bounded bulk, the statement 'linealkeep.Somewhere' answers true: a finder finds a match in a text just where Ends tells an end from some place, whatever its number of states and wherever it is emptied. Its conditions: those of the given card alone (what is handed in counts at most 1048576 values and letters; the listed package-level variables are as the program's text lays them). -/
import Derived.Test.YtfnkbmglodopkaaGreatDoorZSoC
namespace Go.Proofs.YtfnkbmglodopkaaGreatDoor
section
open Go.ChangeShapes Go.WideShapes Go.ChangeAt Go.RowKit
theorem so_fn : Tryz.prog.funcNamed "lineal/linealkeep.Somewhere" = some 12 := by kernel_rfl
theorem so_s0:Tryz.prog.wantsStandIn 9=false:=by kernel_rfl
theorem so_s1:Tryz.prog.wantsStandIn 64=false:=by kernel_rfl
theorem so_s2:Tryz.prog.wantsStandIn 3=false:=by kernel_rfl
theorem so_s3:Tryz.prog.wantsStandIn 28=false:=by kernel_rfl
theorem cardS_holds:Rows.SomewhereUptoCardSaid:=
 Claim7.holds_tied_plain_at .later [] _ _ _ _
  vr (fun _ h=>by cases h) (by as_aux_lemma=>kernel_rfl) (fun _ h=>by cases h) somewhereUpto_row_tie rfl ⟨rfl,rfl⟩ (by as_aux_lemma=>kernel_rfl) rfl
  (fun f fn hf hfn=>by
   obtain rfl:f=12:=Option.some.inj (so_fn.symm.trans hf) |>.symm
   obtain rfl:fn=Tryz.f12:=(Option.some.inj (Tryz.func12.symm.trans hfn)).symm
   exact ⟨by as_aux_lemma=>kernel_rfl,fun j t ht=>by
    rw [Tryz.params12] at ht
    rcases j with _ |_ |_ |_ |j
    ·obtain rfl:t=9:=by simpa using ht.symm
     exact so_s0
    ·obtain rfl:t=64:=by simpa using ht.symm
     exact so_s1
    ·obtain rfl:t=3:=by simpa using ht.symm
     exact so_s2
    ·obtain rfl:t=28:=by simpa using ht.symm
     exact so_s3
    ·simp at ht⟩)
  (by as_aux_lemma=>kernel_rfl)
#print axioms cardS_holds
end
end Go.Proofs.YtfnkbmglodopkaaGreatDoor
