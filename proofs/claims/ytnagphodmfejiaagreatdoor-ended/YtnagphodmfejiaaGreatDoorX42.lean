/- The closed facts of Ended's row over the whole program, together. -/
import Derived.Test.YtnagphodmfejiaaGreatDoorX41
namespace Go.Proofs.YtnagphodmfejiaaGreatDoor
section
theorem and_ofE {a b:Bool}(h:a=true)(k:b=true):(a && b)=true:=by rw [h,k];rfl
theorem closedE:joinedFacts Tryz.prog 4 Tryz.f4 Rows.endedSpec Rows.endedRow=true:=by
 unfold joinedFacts
 repeat' (with_reducible refine and_ofE ?_ ?_)
 all_goals first |with_reducible exact za9 |with_reducible exact JO |with_reducible exact W8 |with_reducible exact je_named |with_reducible exact je_laid |with_reducible exact je_maps |with_reducible exact je_enter |with_reducible exact je_heard |with_reducible exact zc6 |(as_aux_lemma=>kernel_rfl)
end
end Go.Proofs.YtnagphodmfejiaaGreatDoor
