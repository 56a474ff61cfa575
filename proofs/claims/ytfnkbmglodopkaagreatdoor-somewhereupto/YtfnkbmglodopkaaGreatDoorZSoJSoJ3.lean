/- The closed facts of SomewhereUpto's row over the whole program, one by one. -/
import Derived.Test.YtfnkbmglodopkaaGreatDoorRows
import Derived.JoinedOf
import Derived.KernelRfl
namespace Go.Proofs.YtfnkbmglodopkaaGreatDoor
section
theorem J3:(Rows.somewhereUptoRow.inPlace == Tryz.prog.inPlace 12)=true:=by kernel_rfl
theorem YM:(Rows.somewhereUptoRow.unfollowed == Tryz.prog.unfollowed 12)=true:=by kernel_rfl
theorem Jd:(Rows.somewhereUptoRow.recurses == Tryz.prog.recurses 12)=true:=by kernel_rfl
theorem js_named:(Rows.somewhereUptoRow.named == Tryz.prog.varsNamed 12)=true:=by kernel_rfl
end
end Go.Proofs.YtfnkbmglodopkaaGreatDoor
