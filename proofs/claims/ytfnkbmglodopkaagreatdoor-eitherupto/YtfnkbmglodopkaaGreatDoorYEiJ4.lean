/- The closed facts of EitherUpto's row over the whole program, one by one. -/
import Derived.Test.YtfnkbmglodopkaaGreatDoorRows
import Derived.JoinedOf
import Derived.KernelRfl
namespace Go.Proofs.YtfnkbmglodopkaaGreatDoor
section
theorem jei_laid:laidOutB Tryz.prog=true:=by kernel_rfl
theorem jei_maps:mapsRowed Tryz.prog=true:=by kernel_rfl
theorem zbK:Tryz.prog.mayEnter=true:=by kernel_rfl
theorem zbL:Tryz.prog.stopsHeard=true:=by kernel_rfl
theorem WB:(Rows.eitherUptoRow.lifted == Tryz.prog.liftsFinal)=true:=by kernel_rfl
end
end Go.Proofs.YtfnkbmglodopkaaGreatDoor
