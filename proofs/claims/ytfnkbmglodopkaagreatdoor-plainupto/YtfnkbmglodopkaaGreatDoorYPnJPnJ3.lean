/- The closed facts of PlainUpto's row over the whole program, one by one. -/
import Derived.Test.YtfnkbmglodopkaaGreatDoorRows
import Derived.JoinedOf
import Derived.KernelRfl
namespace Go.Proofs.YtfnkbmglodopkaaGreatDoor
section
theorem zd8:(Rows.plainUptoRow.inPlace == Tryz.prog.inPlace 10)=true:=by kernel_rfl
theorem zd2:(Rows.plainUptoRow.unfollowed == Tryz.prog.unfollowed 10)=true:=by kernel_rfl
theorem zd7:(Rows.plainUptoRow.recurses == Tryz.prog.recurses 10)=true:=by kernel_rfl
theorem zem:(Rows.plainUptoRow.named == Tryz.prog.varsNamed 10)=true:=by kernel_rfl
end
end Go.Proofs.YtfnkbmglodopkaaGreatDoor
