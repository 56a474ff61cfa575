/- For any bytes of bounded bulk the statement 'linealkeep.Texts' answers true: they are a text by the statement's own encoding, or Compile and Ends tell the first bad byte. Its conditions: those of the given card alone (what is handed in counts at most 1048576 values and letters; the listed package-level variables are as the program's text lays them). -/
import Derived.Test.YtfnkbmglodopkaaGreatDoorYTxC
namespace Go.Proofs.YtfnkbmglodopkaaGreatDoor
section
open Go.ChangeShapes Go.WideShapes Go.ChangeAt Go.RowKit
theorem tx_fn : Tryz.prog.funcNamed "lineal/linealkeep.Texts" = some 3 := by kernel_rfl
theorem tx_st_s:Tryz.prog.wantsStandIn 9=false:=by kernel_rfl
theorem cardT_holds:Rows.TextsUptoCardSaid:=
 Claim7.holds_tied_plain_at .later [] _ _ _ _
  Xz (fun _ h=>by cases h) (by as_aux_lemma=>kernel_rfl) (fun _ h=>by cases h) textsUpto_row_tie rfl ⟨rfl,rfl⟩ (by as_aux_lemma=>kernel_rfl) rfl
  (fun f fn hf hfn=>by
   obtain rfl:f=3:=Option.some.inj (tx_fn.symm.trans hf) |>.symm
   obtain rfl:fn=Tryz.f3:=(Option.some.inj (Tryz.func3.symm.trans hfn)).symm
   exact ⟨by as_aux_lemma=>kernel_rfl,fun j t ht=>by
    rw [Tryz.params3] at ht
    rcases j with _ |j
    ·obtain rfl:t=9:=by simpa using ht.symm
     exact tx_st_s
    ·simp at ht⟩)
  (by as_aux_lemma=>kernel_rfl)
#print axioms cardT_holds
end
end Go.Proofs.YtfnkbmglodopkaaGreatDoor
