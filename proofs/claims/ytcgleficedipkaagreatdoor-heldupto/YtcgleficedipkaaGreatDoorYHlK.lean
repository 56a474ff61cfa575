/- The closed facts of HeldUpto's row over the whole program, together. -/
import Derived.Test.YtcgleficedipkaaGreatDoorYHlJHlJ3
import Derived.Test.YtcgleficedipkaaGreatDoorYHlJ4
namespace Go.Proofs.YtcgleficedipkaaGreatDoor
section
theorem and_ofHl {a b:Bool}(h:a=true)(k:b=true):(a && b)=true:=by rw [h,k];rfl
theorem closedHl:joinedFacts Tryz.prog 5 Tryz.f5 (Rows.OpenSpec.upto Rows.heldSpec).bare Rows.heldUptoRow=true:=by
 unfold joinedFacts
 repeat' (with_reducible refine and_ofHl ?_ ?_)
 all_goals first |with_reducible exact zes |with_reducible exact wo |with_reducible exact zeq |with_reducible exact zeV |with_reducible exact jhl_laid |with_reducible exact jhl_maps |with_reducible exact zeT |with_reducible exact zeU |with_reducible exact zeA |(as_aux_lemma=>kernel_rfl)
end
end Go.Proofs.YtcgleficedipkaaGreatDoor
