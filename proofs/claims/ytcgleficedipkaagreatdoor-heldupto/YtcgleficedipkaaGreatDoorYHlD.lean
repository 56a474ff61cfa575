/- For every four texts and two numbers, together of bounded bulk, the statement 'linealkeep.Held' answers true: an object with one child, a string, held against two schemas, fails just where the patterns are not found by finders. Its conditions: those of the given card alone (what is handed in counts at most 1048576 values and letters; the listed package-level variables are as the program's text lays them). -/
import Derived.Test.YtcgleficedipkaaGreatDoorYHlC
namespace Go.Proofs.YtcgleficedipkaaGreatDoor
section
open Go.ChangeShapes Go.WideShapes Go.ChangeAt Go.RowKit
theorem hl_fn : Tryz.prog.funcNamed "lineal/linealkeep.Held" = some 5 := by kernel_rfl
theorem hl_st_i:Tryz.prog.wantsStandIn 3=false:=by kernel_rfl
theorem hl_st_s:Tryz.prog.wantsStandIn 9=false:=by kernel_rfl
theorem cardL_holds:Rows.HeldUptoCardSaid:=
 Claim7.holds_tied_plain_at .later [] _ _ _ _
  wm (fun _ h=>by cases h) (by as_aux_lemma=>kernel_rfl) (fun _ h=>by cases h) heldUpto_row_tie rfl ⟨rfl,rfl⟩ (by as_aux_lemma=>kernel_rfl) rfl
  (fun f fn hf hfn=>by
   obtain rfl:f=5:=Option.some.inj (hl_fn.symm.trans hf) |>.symm
   obtain rfl:fn=Tryz.f5:=(Option.some.inj (Tryz.func5.symm.trans hfn)).symm
   exact ⟨by as_aux_lemma=>kernel_rfl,fun j t ht=>by
    rw [Tryz.params5] at ht
    rcases j with _ |_ |_ |_ |_ |_ |j
    ·obtain rfl:t=9:=by simpa using ht.symm
     exact hl_st_s
    ·obtain rfl:t=9:=by simpa using ht.symm
     exact hl_st_s
    ·obtain rfl:t=9:=by simpa using ht.symm
     exact hl_st_s
    ·obtain rfl:t=9:=by simpa using ht.symm
     exact hl_st_s
    ·obtain rfl:t=3:=by simpa using ht.symm
     exact hl_st_i
    ·obtain rfl:t=3:=by simpa using ht.symm
     exact hl_st_i
    ·simp at ht⟩)
  (by as_aux_lemma=>kernel_rfl)
#print axioms cardL_holds
end
end Go.Proofs.YtcgleficedipkaaGreatDoor
