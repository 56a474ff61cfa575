/- Either's row holds where the bulk is bounded. -/
import Derived.Test.YtfnkbmglodopkaaGreatDoorYEiB
import Derived.Test.YtfnkbmglodopkaaGreatDoorYEiK
namespace Go.Proofs.YtfnkbmglodopkaaGreatDoor
section
open Go.ChangeShapes Go.WideShapes Go.ChangeAt Go.RowKit
theorem Yz:Rows.EitherUptoSaid:=
 OpenClaim.holds_of_cond 5 Tryz.f5 rfl rfl rfl rfl rfl rfl rfl ⟨rfl,rfl,rfl,rfl,rfl⟩ rfl rfl rfl rfl rfl (by kernel_rfl) Tryz.func5 closedEi
  (of_decide_eq_true (by kernel_rfl)) (by unfold Func.isWrapper;rw [if_neg (of_decide_eq_false (by kernel_rfl))];exact ⟨rfl,rfl⟩)
  (fun os started H enc _ F=>by rw [OpenClaim.pre_eq_preRow];exact liftedQ os started H enc F)
end
end Go.Proofs.YtfnkbmglodopkaaGreatDoor
