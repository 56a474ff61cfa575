/- Unseen's row holds. -/
import Derived.Test.YtfnkbmglodopkaaGreatDoorZUnB
import Derived.Test.YtfnkbmglodopkaaGreatDoorZUnK
namespace Go.Proofs.YtfnkbmglodopkaaGreatDoor
section
open Go.ChangeShapes Go.WideShapes Go.ChangeAt Go.RowKit
theorem unseen_holds : Rows.UnseenSaid :=
 OpenClaim.holds_of_wide 13 Tryz.f13 rfl rfl rfl rfl rfl rfl rfl ⟨rfl, rfl, rfl, rfl, rfl⟩ rfl rfl rfl rfl rfl (by kernel_rfl) Tryz.func13 closedUn
   (of_decide_eq_true (by kernel_rfl)) (by unfold Func.isWrapper; rw [if_neg (of_decide_eq_false (by kernel_rfl))]; exact ⟨rfl, rfl⟩)
   (fun os started H enc _ => liftedU os started H enc)
end
end Go.Proofs.YtfnkbmglodopkaaGreatDoor
