/- The closed facts of AnchoredUpto's row over the whole program, one by one. -/
import Derived.Test.YtfnkbmglodopkaaGreatDoorRows
import Derived.JoinedOf
import Derived.KernelRfl
namespace Go.Proofs.YtfnkbmglodopkaaGreatDoor
section
theorem jan_laid:laidOutB Tryz.prog=true:=by kernel_rfl
theorem jan_maps:mapsRowed Tryz.prog=true:=by kernel_rfl
theorem zbo:Tryz.prog.mayEnter=true:=by kernel_rfl
theorem zbp:Tryz.prog.stopsHeard=true:=by kernel_rfl
theorem Wm:(Rows.anchoredUptoRow.lifted == Tryz.prog.liftsFinal)=true:=by kernel_rfl
end
end Go.Proofs.YtfnkbmglodopkaaGreatDoor
