/- The closed facts of HeldUpto's row over the whole program, one by one. -/
import Derived.Test.YtcgleficedipkaaGreatDoorRows
import Derived.JoinedOf
import Derived.KernelRfl
namespace Go.Proofs.YtcgleficedipkaaGreatDoor
section
theorem jhl_laid:laidOutB Tryz.prog=true:=by kernel_rfl
theorem jhl_maps:mapsRowed Tryz.prog=true:=by kernel_rfl
theorem zeT:Tryz.prog.mayEnter=true:=by kernel_rfl
theorem zeU:Tryz.prog.stopsHeard=true:=by kernel_rfl
theorem zeA:(Rows.heldUptoRow.lifted == Tryz.prog.liftsFinal)=true:=by kernel_rfl
end
end Go.Proofs.YtcgleficedipkaaGreatDoor
