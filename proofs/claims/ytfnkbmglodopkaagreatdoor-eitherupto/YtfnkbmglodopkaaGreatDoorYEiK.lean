/- The closed facts of EitherUpto's row over the whole program, together. -/
import Derived.Test.YtfnkbmglodopkaaGreatDoorYEiJEiJ3
import Derived.Test.YtfnkbmglodopkaaGreatDoorYEiJ4
namespace Go.Proofs.YtfnkbmglodopkaaGreatDoor
section
theorem and_ofEi {a b:Bool}(h:a=true)(k:b=true):(a && b)=true:=by rw [h,k];rfl
theorem closedEi:joinedFacts Tryz.prog 5 Tryz.f5 (Rows.OpenSpec.upto Rows.eitherSpec).bare Rows.eitherUptoRow=true:=by
 unfold joinedFacts
 repeat' (with_reducible refine and_ofEi ?_ ?_)
 all_goals first |with_reducible exact K3 |with_reducible exact X7 |with_reducible exact J3 |with_reducible exact zbM |with_reducible exact jei_laid |with_reducible exact jei_maps |with_reducible exact zbK |with_reducible exact zbL |with_reducible exact WB |(as_aux_lemma=>kernel_rfl)
end
end Go.Proofs.YtfnkbmglodopkaaGreatDoor
