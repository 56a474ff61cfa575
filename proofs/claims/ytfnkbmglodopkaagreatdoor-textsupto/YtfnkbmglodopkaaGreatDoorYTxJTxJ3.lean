/- The closed facts of TextsUpto's row over the whole program, one by one. -/
import Derived.Test.YtfnkbmglodopkaaGreatDoorRows
import Derived.JoinedOf
import Derived.KernelRfl
namespace Go.Proofs.YtfnkbmglodopkaaGreatDoor
section
theorem Wl:(Rows.textsUptoRow.inPlace == Tryz.prog.inPlace 3)=true:=by kernel_rfl
theorem QN:(Rows.textsUptoRow.unfollowed == Tryz.prog.unfollowed 3)=true:=by kernel_rfl
theorem KL:(Rows.textsUptoRow.recurses == Tryz.prog.recurses 3)=true:=by kernel_rfl
theorem zc9:(Rows.textsUptoRow.named == Tryz.prog.varsNamed 3)=true:=by kernel_rfl
end
end Go.Proofs.YtfnkbmglodopkaaGreatDoor
