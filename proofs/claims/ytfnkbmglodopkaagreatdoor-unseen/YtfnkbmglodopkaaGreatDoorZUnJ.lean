/- The closed facts of Unseen's row over the whole program, one by one. -/
import Derived.Test.YtfnkbmglodopkaaGreatDoorRows
import Derived.JoinedOf
import Derived.KernelRfl
namespace Go.Proofs.YtfnkbmglodopkaaGreatDoor
section
theorem ju_inPlace : (Rows.unseenRow.inPlace == Tryz.prog.inPlace 13) = true := by kernel_rfl
theorem ju_unfollowed : (Rows.unseenRow.unfollowed == Tryz.prog.unfollowed 13) = true := by kernel_rfl
end
end Go.Proofs.YtfnkbmglodopkaaGreatDoor
