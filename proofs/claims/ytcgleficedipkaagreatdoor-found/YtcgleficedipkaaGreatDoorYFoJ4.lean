/- The closed facts of Found's row over the whole program, one by one. -/
import Derived.Test.YtcgleficedipkaaGreatDoorRows
import Derived.JoinedOf
import Derived.KernelRfl
namespace Go.Proofs.YtcgleficedipkaaGreatDoor
section
theorem jfo_laid:laidOutB Tryz.prog=true:=by kernel_rfl
theorem jfo_maps:mapsRowed Tryz.prog=true:=by kernel_rfl
theorem zhx:Tryz.prog.mayEnter=true:=by kernel_rfl
theorem zhy:Tryz.prog.stopsHeard=true:=by kernel_rfl
theorem zg2:(Rows.foundRow.lifted == Tryz.prog.liftsFinal)=true:=by kernel_rfl
end
end Go.Proofs.YtcgleficedipkaaGreatDoor
