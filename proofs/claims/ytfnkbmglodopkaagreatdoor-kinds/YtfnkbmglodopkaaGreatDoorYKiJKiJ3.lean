/- The closed facts of Kinds's row over the whole program, one by one. -/
import Derived.Test.YtfnkbmglodopkaaGreatDoorRows
import Derived.JoinedOf
import Derived.KernelRfl
namespace Go.Proofs.YtfnkbmglodopkaaGreatDoor
section
theorem zdH:(Rows.kindsRow.inPlace == Tryz.prog.inPlace 9)=true:=by kernel_rfl
theorem zdA:(Rows.kindsRow.unfollowed == Tryz.prog.unfollowed 9)=true:=by kernel_rfl
theorem zdE:(Rows.kindsRow.recurses == Tryz.prog.recurses 9)=true:=by kernel_rfl
theorem zdS:(Rows.kindsRow.named == Tryz.prog.varsNamed 9)=true:=by kernel_rfl
end
end Go.Proofs.YtfnkbmglodopkaaGreatDoor
