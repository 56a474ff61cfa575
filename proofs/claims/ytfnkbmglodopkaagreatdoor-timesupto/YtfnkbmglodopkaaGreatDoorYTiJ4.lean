/- The closed facts of TimesUpto's row over the whole program, one by one. -/
import Derived.Test.YtfnkbmglodopkaaGreatDoorRows
import Derived.JoinedOf
import Derived.KernelRfl
namespace Go.Proofs.YtfnkbmglodopkaaGreatDoor
section
theorem jti_laid:laidOutB Tryz.prog=true:=by kernel_rfl
theorem jti_maps:mapsRowed Tryz.prog=true:=by kernel_rfl
theorem zdp:Tryz.prog.mayEnter=true:=by kernel_rfl
theorem zdq:Tryz.prog.stopsHeard=true:=by kernel_rfl
theorem zdj:(Rows.timesUptoRow.lifted == Tryz.prog.liftsFinal)=true:=by kernel_rfl
end
end Go.Proofs.YtfnkbmglodopkaaGreatDoor
