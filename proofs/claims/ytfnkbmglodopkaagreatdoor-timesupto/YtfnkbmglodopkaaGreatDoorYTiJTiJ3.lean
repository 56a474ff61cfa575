/- The closed facts of TimesUpto's row over the whole program, one by one. -/
import Derived.Test.YtfnkbmglodopkaaGreatDoorRows
import Derived.JoinedOf
import Derived.KernelRfl
namespace Go.Proofs.YtfnkbmglodopkaaGreatDoor
section
theorem zdh:(Rows.timesUptoRow.inPlace == Tryz.prog.inPlace 7)=true:=by kernel_rfl
theorem zdc:(Rows.timesUptoRow.unfollowed == Tryz.prog.unfollowed 7)=true:=by kernel_rfl
theorem zdg:(Rows.timesUptoRow.recurses == Tryz.prog.recurses 7)=true:=by kernel_rfl
theorem zdr:(Rows.timesUptoRow.named == Tryz.prog.varsNamed 7)=true:=by kernel_rfl
end
end Go.Proofs.YtfnkbmglodopkaaGreatDoor
