/- The closed facts of AnchoredUpto's row over the whole program, one by one. -/
import Derived.Test.YtfnkbmglodopkaaGreatDoorRows
import Derived.JoinedOf
import Derived.KernelRfl
namespace Go.Proofs.YtfnkbmglodopkaaGreatDoor
section
theorem KM:(Rows.anchoredUptoRow.inPlace == Tryz.prog.inPlace 11)=true:=by kernel_rfl
theorem XP:(Rows.anchoredUptoRow.unfollowed == Tryz.prog.unfollowed 11)=true:=by kernel_rfl
theorem JQ:(Rows.anchoredUptoRow.recurses == Tryz.prog.recurses 11)=true:=by kernel_rfl
theorem zbq:(Rows.anchoredUptoRow.named == Tryz.prog.varsNamed 11)=true:=by kernel_rfl
end
end Go.Proofs.YtfnkbmglodopkaaGreatDoor
