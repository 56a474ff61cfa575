/- The closed facts of Ended's row over the whole program, one by one. -/
import Derived.Test.YtnagphodmfejiaaGreatDoorRows
import Derived.JoinedOf
import Derived.KernelRfl
namespace Go.Proofs.YtnagphodmfejiaaGreatDoor
section
theorem WL:(Rows.endedRow.inPlace == Tryz.prog.inPlace 4)=true:=by kernel_rfl
theorem Qw:(Rows.endedRow.unfollowed == Tryz.prog.unfollowed 4)=true:=by kernel_rfl
theorem VF:(Rows.endedRow.recurses == Tryz.prog.recurses 4)=true:=by kernel_rfl
theorem je_named:(Rows.endedRow.named == Tryz.prog.varsNamed 4)=true:=by kernel_rfl
theorem je_laid:laidOutB Tryz.prog=true:=by kernel_rfl
theorem je_maps:mapsRowed Tryz.prog=true:=by kernel_rfl
theorem je_enter:Tryz.prog.mayEnter=true:=by kernel_rfl
theorem je_heard:Tryz.prog.stopsHeard=true:=by kernel_rfl
theorem zbL:(Rows.endedRow.lifted == Tryz.prog.liftsFinal)=true:=by kernel_rfl
end
end Go.Proofs.YtnagphodmfejiaaGreatDoor
