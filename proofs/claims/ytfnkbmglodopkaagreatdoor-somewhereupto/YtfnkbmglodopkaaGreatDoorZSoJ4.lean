/- The closed facts of SomewhereUpto's row over the whole program, one by one. -/
import Derived.Test.YtfnkbmglodopkaaGreatDoorRows
import Derived.JoinedOf
import Derived.KernelRfl
namespace Go.Proofs.YtfnkbmglodopkaaGreatDoor
section
theorem js_laid:laidOutB Tryz.prog=true:=by kernel_rfl
theorem js_maps:mapsRowed Tryz.prog=true:=by kernel_rfl
theorem js_enter:Tryz.prog.mayEnter=true:=by kernel_rfl
theorem js_heard:Tryz.prog.stopsHeard=true:=by kernel_rfl
theorem VW:(Rows.somewhereUptoRow.lifted == Tryz.prog.liftsFinal)=true:=by kernel_rfl
end
end Go.Proofs.YtfnkbmglodopkaaGreatDoor
