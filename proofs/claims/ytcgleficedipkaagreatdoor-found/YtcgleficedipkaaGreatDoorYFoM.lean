/- For every script the statement 'lineallaw.Found' answers true: whatever patterns are compiled, whatever finders are made of them and asked, several of several patterns in turns, Find tells what the document's answer tells, writes into no list that was handed in, and as many states live as may; each pattern has its size. Its conditions: those of the given card alone (the listed package-level variables are as the program's text lays them; nothing handed in is longer than can be laid). -/
import Derived.Test.YtcgleficedipkaaGreatDoorYFoL
import Derived.Test.YtcgleficedipkaaGreatDoorYFoK
namespace Go.Proofs.YtcgleficedipkaaGreatDoor
section
open Go.ChangeShapes Go.WideShapes Go.ChangeAt Go.RowKit
theorem zgF:Rows.FoundSaid:=
 OpenClaim.holds_of_wide 3 Tryz.f3 rfl rfl rfl rfl rfl rfl rfl ⟨rfl,rfl,rfl,rfl,rfl⟩ rfl rfl rfl rfl rfl (by kernel_rfl) Tryz.func3 closedFo
  (of_decide_eq_true (by kernel_rfl)) (by unfold Func.isWrapper;rw [if_neg (of_decide_eq_false (by kernel_rfl))];exact ⟨rfl,rfl⟩)
  (fun os started H enc _=>liftedF os started H enc)
theorem cardFd_holds:Rows.FoundCardSaid:=
 Claim7.holds_tied_plain_at .later [] Rows.foundCard.laidKinds true Rows.foundCard.stood.harness true
  zgF (fun _ h=>by cases h) (by kernel_rfl) (fun _ h=>by cases h) found_row_tie rfl ⟨rfl,rfl⟩ (by kernel_rfl) rfl
  (fun f fn hf hfn=>by
   obtain rfl : f = 3 := qu ((show Tryz.prog.funcNamed "lineal/lineallaw.Found" = some 3 by kernel_rfl).symm.trans hf) |>.symm;obtain rfl:fn=Tryz.f3:=(qu (Tryz.func3.symm.trans hfn)).symm;exact ⟨by kernel_rfl,fun j t ht=>by
    rw [Tryz.params3] at ht;have h3:t=22:=by
     rcases j with _ |j
     ·simpa using ht.symm
     ·simp at ht
    subst h3;exact (show Tryz.prog.wantsStandIn 22=false by kernel_rfl)⟩)
  (by kernel_rfl)
#print axioms cardFd_holds
end
end Go.Proofs.YtcgleficedipkaaGreatDoor
