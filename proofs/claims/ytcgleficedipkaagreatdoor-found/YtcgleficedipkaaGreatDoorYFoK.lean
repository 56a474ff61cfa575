/- The closed facts of Found's row over the whole program, together. -/
import Derived.Test.YtcgleficedipkaaGreatDoorYFoJFoJ3
import Derived.Test.YtcgleficedipkaaGreatDoorYFoJ4
namespace Go.Proofs.YtcgleficedipkaaGreatDoor
section
theorem and_ofFo {a b:Bool}(h:a=true)(k:b=true):(a && b)=true:=by rw [h,k];rfl
theorem closedFo:joinedFacts Tryz.prog 3 Tryz.f3 Rows.foundSpec Rows.foundRow=true:=by
 unfold joinedFacts
 repeat' (with_reducible refine and_ofFo ?_ ?_)
 all_goals first |with_reducible exact zgE |with_reducible exact zfO |with_reducible exact zgq |with_reducible exact zhz |with_reducible exact jfo_laid |with_reducible exact jfo_maps |with_reducible exact zhx |with_reducible exact zhy |with_reducible exact zg2 |(as_aux_lemma=>kernel_rfl)
end
end Go.Proofs.YtcgleficedipkaaGreatDoor
