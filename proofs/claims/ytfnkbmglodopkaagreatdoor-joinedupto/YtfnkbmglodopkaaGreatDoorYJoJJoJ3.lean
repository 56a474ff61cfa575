/- The closed facts of JoinedUpto's row over the whole program, one by one. -/
import Derived.Test.YtfnkbmglodopkaaGreatDoorRows
import Derived.JoinedOf
import Derived.KernelRfl
namespace Go.Proofs.YtfnkbmglodopkaaGreatDoor
section
theorem Vc:(Rows.joinedUptoRow.inPlace == Tryz.prog.inPlace 4)=true:=by kernel_rfl
theorem X9:(Rows.joinedUptoRow.unfollowed == Tryz.prog.unfollowed 4)=true:=by kernel_rfl
theorem J9:(Rows.joinedUptoRow.recurses == Tryz.prog.recurses 4)=true:=by kernel_rfl
theorem zbZ:(Rows.joinedUptoRow.named == Tryz.prog.varsNamed 4)=true:=by kernel_rfl
end
end Go.Proofs.YtfnkbmglodopkaaGreatDoor
