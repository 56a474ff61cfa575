/- The closed facts of AllUpto's row over the whole program, one by one. -/
import Derived.Test.YtofeiledkmfnfaaGreatDoorYBaseSemD
import Derived.Test.YtofeiledkmfnfaaGreatDoorRows
import Derived.JoinedOf
import Derived.KernelRfl
namespace Go.Proofs.YtofeiledkmfnfaaGreatDoor
open Bool renaming true->G
section
theorem zd0:(Rows.allUptoRow.inPlace == Tryz.prog.inPlace 3)=G:=om
theorem Wx:(Rows.allUptoRow.unfollowed == Tryz.prog.unfollowed 3)=G:=om
theorem zbJ:(Rows.allUptoRow.recurses == Tryz.prog.recurses 3)=G:=om
theorem zh6:(Rows.allUptoRow.named == Tryz.prog.varsNamed 3)=G:=om
theorem EA:laidOutB Tryz.prog=G:=om
theorem Ez:mapsRowed Tryz.prog=G:=om
theorem zh7:Tryz.prog.mayEnter=G:=om
theorem zh8:Tryz.prog.stopsHeard=G:=om
theorem zfj:(Rows.allUptoRow.lifted == Tryz.prog.liftsFinal)=G:=om
theorem Fp {a b:Bool}(h:a=G)(k:b=G):(a && b)=G:=by rw[h,k];rfl
theorem Fb:joinedFacts Tryz.prog 3 Tryz.f3 (Rows.OpenSpec.upto Rows.allSpec).bare Rows.allUptoRow=true:=by
 unfold joinedFacts
 repeat' (with_reducible refine Fp ?_ ?_)
 all_goals first |with_reducible exact zd0 |with_reducible exact Wx |with_reducible exact zbJ |with_reducible exact zh6 |with_reducible exact EA |with_reducible exact Ez |with_reducible exact zh7 |with_reducible exact zh8 |with_reducible exact zfj |(as_aux_lemma=>kernel_rfl)
end
