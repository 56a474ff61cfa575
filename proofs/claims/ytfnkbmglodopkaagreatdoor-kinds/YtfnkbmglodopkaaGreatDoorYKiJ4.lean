/- The closed facts of Kinds's row over the whole program, one by one. -/
import Derived.Test.YtfnkbmglodopkaaGreatDoorRows
import Derived.JoinedOf
import Derived.KernelRfl
namespace Go.Proofs.YtfnkbmglodopkaaGreatDoor
section
theorem jki_laid:laidOutB Tryz.prog=true:=by kernel_rfl
theorem jki_maps:mapsRowed Tryz.prog=true:=by kernel_rfl
theorem zdQ:Tryz.prog.mayEnter=true:=by kernel_rfl
theorem zdR:Tryz.prog.stopsHeard=true:=by kernel_rfl
theorem zdJ:(Rows.kindsRow.lifted == Tryz.prog.liftsFinal)=true:=by kernel_rfl
end
end Go.Proofs.YtfnkbmglodopkaaGreatDoor
