/- Texts's row holds where the bulk is bounded. -/
import Derived.Test.YtfnkbmglodopkaaGreatDoorYTxB
import Derived.Test.YtfnkbmglodopkaaGreatDoorYTxK
namespace Go.Proofs.YtfnkbmglodopkaaGreatDoor
section
open Go.ChangeShapes Go.WideShapes Go.ChangeAt Go.RowKit
theorem Xz:Rows.TextsUptoSaid:=
 OpenClaim.holds_of_cond 3 Tryz.f3 rfl rfl rfl rfl rfl rfl rfl ⟨rfl,rfl,rfl,rfl,rfl⟩ rfl rfl rfl rfl rfl (by kernel_rfl) Tryz.func3 closedTx
  (of_decide_eq_true (by kernel_rfl)) (by unfold Func.isWrapper;rw [if_neg (of_decide_eq_false (by kernel_rfl))];exact ⟨rfl,rfl⟩)
  (fun os started H enc _ F=>by rw [OpenClaim.pre_eq_preRow];exact liftedT os started H enc F)
end
end Go.Proofs.YtfnkbmglodopkaaGreatDoor
