/- The closed facts of HeldUpto's row over the whole program, one by one. -/
import Derived.Test.YtcgleficedipkaaGreatDoorRows
import Derived.JoinedOf
import Derived.KernelRfl
namespace Go.Proofs.YtcgleficedipkaaGreatDoor
section
theorem zes:(Rows.heldUptoRow.inPlace == Tryz.prog.inPlace 5)=true:=by kernel_rfl
theorem wo:(Rows.heldUptoRow.unfollowed == Tryz.prog.unfollowed 5)=true:=by kernel_rfl
theorem zeq:(Rows.heldUptoRow.recurses == Tryz.prog.recurses 5)=true:=by kernel_rfl
theorem zeV:(Rows.heldUptoRow.named == Tryz.prog.varsNamed 5)=true:=by kernel_rfl
end
end Go.Proofs.YtcgleficedipkaaGreatDoor
