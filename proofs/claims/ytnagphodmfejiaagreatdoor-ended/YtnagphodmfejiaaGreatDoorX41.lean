/- The closed facts of Ended's row over the whole program, one by one. -/
import Derived.Test.YtnagphodmfejiaaGreatDoorRows
import Derived.JoinedOf
import Derived.KernelRfl
namespace Go.Proofs.YtnagphodmfejiaaGreatDoor
section
theorem za9:(Rows.endedRow.inPlace == Tryz.prog.inPlace 4)=true:=by kernel_rfl
theorem JO:(Rows.endedRow.unfollowed == Tryz.prog.unfollowed 4)=true:=by kernel_rfl
theorem W8:(Rows.endedRow.recurses == Tryz.prog.recurses 4)=true:=by kernel_rfl
theorem je_named:(Rows.endedRow.named == Tryz.prog.varsNamed 4)=true:=by kernel_rfl
theorem je_laid:laidOutB Tryz.prog=true:=by kernel_rfl
theorem je_maps:mapsRowed Tryz.prog=true:=by kernel_rfl
theorem je_enter:Tryz.prog.mayEnter=true:=by kernel_rfl
theorem je_heard:Tryz.prog.stopsHeard=true:=by kernel_rfl
theorem zc6:(Rows.endedRow.lifted == Tryz.prog.liftsFinal)=true:=by kernel_rfl
end
end Go.Proofs.YtnagphodmfejiaaGreatDoor
