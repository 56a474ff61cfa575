/- The closed facts of StarredUpto's row over the whole program, one by one. -/
import Derived.Test.YtfnkbmglodopkaaGreatDoorRows
import Derived.JoinedOf
import Derived.KernelRfl
namespace Go.Proofs.YtfnkbmglodopkaaGreatDoor
section
theorem jsr_laid:laidOutB Tryz.prog=true:=by kernel_rfl
theorem jsr_maps:mapsRowed Tryz.prog=true:=by kernel_rfl
theorem zcK:Tryz.prog.mayEnter=true:=by kernel_rfl
theorem zcL:Tryz.prog.stopsHeard=true:=by kernel_rfl
theorem W8:(Rows.starredUptoRow.lifted == Tryz.prog.liftsFinal)=true:=by kernel_rfl
end
end Go.Proofs.YtfnkbmglodopkaaGreatDoor
