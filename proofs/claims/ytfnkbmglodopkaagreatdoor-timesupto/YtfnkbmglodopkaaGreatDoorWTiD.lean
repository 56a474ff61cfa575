/- For every pattern, every text and every two numbers, together of bounded bulk, the statement 'linealkeep.Times' answers true: a pattern with counts matches so many times what it matches; the sizes are told too. Its conditions: those of the given card alone (what is handed in counts at most 1048576 values and letters; the listed package-level variables are as the program's text lays them). -/
import Derived.Test.YtfnkbmglodopkaaGreatDoorWTiC
namespace Go.Proofs.YtfnkbmglodopkaaGreatDoor
section
open Go.ChangeShapes Go.WideShapes Go.ChangeAt Go.RowKit
theorem ti_fn : Tryz.prog.funcNamed "lineal/linealkeep.Times" = some 7 := by kernel_rfl
theorem ti_st_i:Tryz.prog.wantsStandIn 3=false:=by kernel_rfl
theorem ti_st_s:Tryz.prog.wantsStandIn 9=false:=by kernel_rfl
theorem cardM_holds:Rows.TimesUptoCardSaid:=
 Claim7.holds_tied_plain_at .later [] _ _ _ _
  zdb (fun _ h=>by cases h) (by as_aux_lemma=>kernel_rfl) (fun _ h=>by cases h) timesUpto_row_tie rfl ⟨rfl,rfl⟩ (by as_aux_lemma=>kernel_rfl) rfl
  (fun f fn hf hfn=>by
   obtain rfl:f=7:=Option.some.inj (ti_fn.symm.trans hf) |>.symm
   obtain rfl:fn=Tryz.f7:=(Option.some.inj (Tryz.func7.symm.trans hfn)).symm
   exact ⟨by as_aux_lemma=>kernel_rfl,fun j t ht=>by
    rw [Tryz.params7] at ht
    rcases j with _ |_ |_ |_ |j
    ·obtain rfl:t=9:=by simpa using ht.symm
     exact ti_st_s
    ·obtain rfl:t=9:=by simpa using ht.symm
     exact ti_st_s
    ·obtain rfl:t=3:=by simpa using ht.symm
     exact ti_st_i
    ·obtain rfl:t=3:=by simpa using ht.symm
     exact ti_st_i
    ·simp at ht⟩)
  (by as_aux_lemma=>kernel_rfl)
#print axioms cardM_holds
end
end Go.Proofs.YtfnkbmglodopkaaGreatDoor
