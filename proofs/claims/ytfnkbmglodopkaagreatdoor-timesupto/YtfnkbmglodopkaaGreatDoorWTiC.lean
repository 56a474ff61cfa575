/- Times's row holds where the bulk is bounded. -/
import Derived.Test.YtfnkbmglodopkaaGreatDoorWTiB
import Derived.Test.YtfnkbmglodopkaaGreatDoorYTiK
namespace Go.Proofs.YtfnkbmglodopkaaGreatDoor
section
open Go.ChangeShapes Go.WideShapes Go.ChangeAt Go.RowKit
theorem zdb:Rows.TimesUptoSaid:=
 OpenClaim.holds_of_cond 7 Tryz.f7 rfl rfl rfl rfl rfl rfl rfl ⟨rfl,rfl,rfl,rfl,rfl⟩ rfl rfl rfl rfl rfl (by kernel_rfl) Tryz.func7 closedTi
  (of_decide_eq_true (by kernel_rfl)) (by unfold Func.isWrapper;rw [if_neg (of_decide_eq_false (by kernel_rfl))];exact ⟨rfl,rfl⟩)
  (fun os started H enc _ F=>by rw [OpenClaim.pre_eq_preRow];exact liftedM os started H enc F)
end
end Go.Proofs.YtfnkbmglodopkaaGreatDoor
