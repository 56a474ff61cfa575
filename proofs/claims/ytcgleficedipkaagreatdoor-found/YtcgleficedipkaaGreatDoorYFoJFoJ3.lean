/- The closed facts of Found's row over the whole program, one by one. -/
import Derived.Test.YtcgleficedipkaaGreatDoorRows
import Derived.JoinedOf
import Derived.KernelRfl
namespace Go.Proofs.YtcgleficedipkaaGreatDoor
section
theorem zgE:(Rows.foundRow.inPlace == Tryz.prog.inPlace 3)=true:=by kernel_rfl
theorem zfO:(Rows.foundRow.unfollowed == Tryz.prog.unfollowed 3)=true:=by kernel_rfl
theorem zgq:(Rows.foundRow.recurses == Tryz.prog.recurses 3)=true:=by kernel_rfl
theorem zhz:(Rows.foundRow.named == Tryz.prog.varsNamed 3)=true:=by kernel_rfl
end
end Go.Proofs.YtcgleficedipkaaGreatDoor
