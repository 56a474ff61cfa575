/- Plain's row holds where the bulk is bounded. -/
import Derived.Test.YtfnkbmglodopkaaGreatDoorUPnB
import Derived.Test.YtfnkbmglodopkaaGreatDoorYPnK
namespace Go.Proofs.YtfnkbmglodopkaaGreatDoor
section
open Go.ChangeShapes Go.WideShapes Go.ChangeAt Go.RowKit
theorem zd0:Rows.PlainUptoSaid:=
 OpenClaim.holds_of_cond 10 Tryz.f10 rfl rfl rfl rfl rfl rfl rfl ⟨rfl,rfl,rfl,rfl,rfl⟩ rfl rfl rfl rfl rfl (by kernel_rfl) Tryz.func10 closedPn
  (of_decide_eq_true (by kernel_rfl)) (by unfold Func.isWrapper;rw [if_neg (of_decide_eq_false (by kernel_rfl))];exact ⟨rfl,rfl⟩)
  (fun os started H enc _ F=>by rw [OpenClaim.pre_eq_preRow];exact liftedN os started H enc F)
end
end Go.Proofs.YtfnkbmglodopkaaGreatDoor
