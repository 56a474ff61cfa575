/- The closed facts of EitherUpto's row over the whole program, one by one. -/
import Derived.Test.YtfnkbmglodopkaaGreatDoorRows
import Derived.JoinedOf
import Derived.KernelRfl
namespace Go.Proofs.YtfnkbmglodopkaaGreatDoor
section
theorem K3:(Rows.eitherUptoRow.inPlace == Tryz.prog.inPlace 5)=true:=by kernel_rfl
theorem X7:(Rows.eitherUptoRow.unfollowed == Tryz.prog.unfollowed 5)=true:=by kernel_rfl
theorem J3:(Rows.eitherUptoRow.recurses == Tryz.prog.recurses 5)=true:=by kernel_rfl
theorem zbM:(Rows.eitherUptoRow.named == Tryz.prog.varsNamed 5)=true:=by kernel_rfl
end
end Go.Proofs.YtfnkbmglodopkaaGreatDoor
