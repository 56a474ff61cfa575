/- The closed facts of PlainUpto's row over the whole program, one by one. -/
import Derived.Test.YtfnkbmglodopkaaGreatDoorRows
import Derived.JoinedOf
import Derived.KernelRfl
namespace Go.Proofs.YtfnkbmglodopkaaGreatDoor
section
theorem jpn_laid:laidOutB Tryz.prog=true:=by kernel_rfl
theorem jpn_maps:mapsRowed Tryz.prog=true:=by kernel_rfl
theorem zek:Tryz.prog.mayEnter=true:=by kernel_rfl
theorem zel:Tryz.prog.stopsHeard=true:=by kernel_rfl
theorem zea:(Rows.plainUptoRow.lifted == Tryz.prog.liftsFinal)=true:=by kernel_rfl
end
end Go.Proofs.YtfnkbmglodopkaaGreatDoor
