/- Held's row holds where the bulk is bounded. -/
import Derived.Test.YtcgleficedipkaaGreatDoorYHlB
import Derived.Test.YtcgleficedipkaaGreatDoorYHlK
namespace Go.Proofs.YtcgleficedipkaaGreatDoor
section
open Go.ChangeShapes Go.WideShapes Go.ChangeAt Go.RowKit
theorem wm:Rows.HeldUptoSaid:=
 OpenClaim.holds_of_cond 5 Tryz.f5 rfl rfl rfl rfl rfl rfl rfl ⟨rfl,rfl,rfl,rfl,rfl⟩ rfl rfl rfl rfl rfl (by kernel_rfl) Tryz.func5 closedHl
  (of_decide_eq_true (by kernel_rfl)) (by unfold Func.isWrapper;rw [if_neg (of_decide_eq_false (by kernel_rfl))];exact ⟨rfl,rfl⟩)
  (fun os started H enc _ F=>by rw [OpenClaim.pre_eq_preRow];exact liftedL os started H enc F)
end
end Go.Proofs.YtcgleficedipkaaGreatDoor
