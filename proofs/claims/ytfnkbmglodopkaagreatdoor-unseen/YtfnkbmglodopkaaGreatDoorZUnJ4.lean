/- The closed facts of Unseen's row over the whole program, one by one. -/
import Derived.Test.YtfnkbmglodopkaaGreatDoorRows
import Derived.JoinedOf
import Derived.KernelRfl
namespace Go.Proofs.YtfnkbmglodopkaaGreatDoor
section
theorem ju_laid : laidOutB Tryz.prog = true := by kernel_rfl
theorem ju_maps : mapsRowed Tryz.prog = true := by kernel_rfl
theorem ju_enter : Tryz.prog.mayEnter = true := by kernel_rfl
theorem ju_heard : Tryz.prog.stopsHeard = true := by kernel_rfl
theorem ju_lifted : (Rows.unseenRow.lifted == Tryz.prog.liftsFinal) = true := by kernel_rfl
end
end Go.Proofs.YtfnkbmglodopkaaGreatDoor
