/- The closed facts of JoinedUpto's row over the whole program, together. -/
import Derived.Test.YtfnkbmglodopkaaGreatDoorYJoJJoJ3
import Derived.Test.YtfnkbmglodopkaaGreatDoorYJoJ4
namespace Go.Proofs.YtfnkbmglodopkaaGreatDoor
section
theorem and_ofJo {a b:Bool}(h:a=true)(k:b=true):(a && b)=true:=by rw [h,k];rfl
theorem closedJo:joinedFacts Tryz.prog 4 Tryz.f4 (Rows.OpenSpec.upto Rows.joinedSpec).bare Rows.joinedUptoRow=true:=by
 unfold joinedFacts
 repeat' (with_reducible refine and_ofJo ?_ ?_)
 all_goals first |with_reducible exact Vc |with_reducible exact X9 |with_reducible exact J9 |with_reducible exact zbZ |with_reducible exact jjo_laid |with_reducible exact jjo_maps |with_reducible exact zbX |with_reducible exact zbY |with_reducible exact WI |(as_aux_lemma=>kernel_rfl)
end
end Go.Proofs.YtfnkbmglodopkaaGreatDoor
