/- For every two texts and every number, together of bounded bulk, the statement 'linealkeep.Plain' answers true: a text with a backslash ahead of all characters that say something is a pattern that matches it and no other; as a class of its characters it takes just these. Its conditions: those of the given card alone (what is handed in counts at most 1048576 values and letters; the listed package-level variables are as the program's text lays them). -/
import Derived.Test.YtfnkbmglodopkaaGreatDoorUPnC
namespace Go.Proofs.YtfnkbmglodopkaaGreatDoor
section
open Go.ChangeShapes Go.WideShapes Go.ChangeAt Go.RowKit
theorem pn_fn : Tryz.prog.funcNamed "lineal/linealkeep.Plain" = some 10 := by kernel_rfl
theorem pn_st_i:Tryz.prog.wantsStandIn 3=false:=by kernel_rfl
theorem pn_st_s:Tryz.prog.wantsStandIn 9=false:=by kernel_rfl
theorem cardN_holds:Rows.PlainUptoCardSaid:=
 Claim7.holds_tied_plain_at .later [] _ _ _ _
  zd0 (fun _ h=>by cases h) (by as_aux_lemma=>kernel_rfl) (fun _ h=>by cases h) plainUpto_row_tie rfl ⟨rfl,rfl⟩ (by as_aux_lemma=>kernel_rfl) rfl
  (fun f fn hf hfn=>by
   obtain rfl:f=10:=Option.some.inj (pn_fn.symm.trans hf) |>.symm
   obtain rfl:fn=Tryz.f10:=(Option.some.inj (Tryz.func10.symm.trans hfn)).symm
   exact ⟨by as_aux_lemma=>kernel_rfl,fun j t ht=>by
    rw [Tryz.params10] at ht
    rcases j with _ |_ |_ |j
    ·obtain rfl:t=9:=by simpa using ht.symm
     exact pn_st_s
    ·obtain rfl:t=9:=by simpa using ht.symm
     exact pn_st_s
    ·obtain rfl:t=3:=by simpa using ht.symm
     exact pn_st_i
    ·simp at ht⟩)
  (by as_aux_lemma=>kernel_rfl)
#print axioms cardN_holds
end
end Go.Proofs.YtfnkbmglodopkaaGreatDoor
