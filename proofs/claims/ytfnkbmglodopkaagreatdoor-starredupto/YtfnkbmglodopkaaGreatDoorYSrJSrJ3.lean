/- The closed facts of StarredUpto's row over the whole program, one by one. -/
import Derived.Test.YtfnkbmglodopkaaGreatDoorRows
import Derived.JoinedOf
import Derived.KernelRfl
namespace Go.Proofs.YtfnkbmglodopkaaGreatDoor
section
theorem VU:(Rows.starredUptoRow.inPlace == Tryz.prog.inPlace 6)=true:=by kernel_rfl
theorem QD:(Rows.starredUptoRow.unfollowed == Tryz.prog.unfollowed 6)=true:=by kernel_rfl
theorem Kz:(Rows.starredUptoRow.recurses == Tryz.prog.recurses 6)=true:=by kernel_rfl
theorem zcM:(Rows.starredUptoRow.named == Tryz.prog.varsNamed 6)=true:=by kernel_rfl
end
end Go.Proofs.YtfnkbmglodopkaaGreatDoor
