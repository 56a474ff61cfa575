/- The closed facts of TextsUpto's row over the whole program, one by one. -/
import Derived.Test.YtfnkbmglodopkaaGreatDoorRows
import Derived.JoinedOf
import Derived.KernelRfl
namespace Go.Proofs.YtfnkbmglodopkaaGreatDoor
section
theorem jtx_laid:laidOutB Tryz.prog=true:=by kernel_rfl
theorem jtx_maps:mapsRowed Tryz.prog=true:=by kernel_rfl
theorem zc7:Tryz.prog.mayEnter=true:=by kernel_rfl
theorem zc8:Tryz.prog.stopsHeard=true:=by kernel_rfl
theorem zaj:(Rows.textsUptoRow.lifted == Tryz.prog.liftsFinal)=true:=by kernel_rfl
end
end Go.Proofs.YtfnkbmglodopkaaGreatDoor
