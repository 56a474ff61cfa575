/- Anchored's row holds where the bulk is bounded. -/
import Derived.Test.YtfnkbmglodopkaaGreatDoorYAnB
import Derived.Test.YtfnkbmglodopkaaGreatDoorYAnK
namespace Go.Proofs.YtfnkbmglodopkaaGreatDoor
section
open Go.ChangeShapes Go.WideShapes Go.ChangeAt Go.RowKit
theorem Zp:Rows.AnchoredUptoSaid:=
 OpenClaim.holds_of_cond 11 Tryz.f11 rfl rfl rfl rfl rfl rfl rfl ⟨rfl,rfl,rfl,rfl,rfl⟩ rfl rfl rfl rfl rfl (by kernel_rfl) Tryz.func11 closedAn
  (of_decide_eq_true (by kernel_rfl)) (by unfold Func.isWrapper;rw [if_neg (of_decide_eq_false (by kernel_rfl))];exact ⟨rfl,rfl⟩)
  (fun os started H enc _ F=>by rw [OpenClaim.pre_eq_preRow];exact liftedA os started H enc F)
end
end Go.Proofs.YtfnkbmglodopkaaGreatDoor
