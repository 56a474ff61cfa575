/- The closed facts of JoinedUpto's row over the whole program, one by one. -/
import Derived.Test.YtfnkbmglodopkaaGreatDoorRows
import Derived.JoinedOf
import Derived.KernelRfl
namespace Go.Proofs.YtfnkbmglodopkaaGreatDoor
section
theorem jjo_laid:laidOutB Tryz.prog=true:=by kernel_rfl
theorem jjo_maps:mapsRowed Tryz.prog=true:=by kernel_rfl
theorem zbX:Tryz.prog.mayEnter=true:=by kernel_rfl
theorem zbY:Tryz.prog.stopsHeard=true:=by kernel_rfl
theorem WI:(Rows.joinedUptoRow.lifted == Tryz.prog.liftsFinal)=true:=by kernel_rfl
end
end Go.Proofs.YtfnkbmglodopkaaGreatDoor
