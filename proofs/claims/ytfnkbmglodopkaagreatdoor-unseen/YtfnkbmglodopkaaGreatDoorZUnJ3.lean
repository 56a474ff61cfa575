/- The closed facts of Unseen's row over the whole program, one by one. -/
import Derived.Test.YtfnkbmglodopkaaGreatDoorRows
import Derived.JoinedOf
import Derived.KernelRfl
namespace Go.Proofs.YtfnkbmglodopkaaGreatDoor
section
theorem ju_named : (Rows.unseenRow.named == Tryz.prog.varsNamed 13) = true := by kernel_rfl
end
end Go.Proofs.YtfnkbmglodopkaaGreatDoor
