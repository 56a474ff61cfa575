/- The closed facts of AnchoredUpto's row over the whole program, together. -/
import Derived.Test.YtfnkbmglodopkaaGreatDoorYAnJAnJ3
import Derived.Test.YtfnkbmglodopkaaGreatDoorYAnJ4
namespace Go.Proofs.YtfnkbmglodopkaaGreatDoor
section
theorem and_ofAn {a b:Bool}(h:a=true)(k:b=true):(a && b)=true:=by rw [h,k];rfl
theorem closedAn:joinedFacts Tryz.prog 11 Tryz.f11 (Rows.OpenSpec.upto Rows.anchoredSpec).bare Rows.anchoredUptoRow=true:=by
 unfold joinedFacts
 repeat' (with_reducible refine and_ofAn ?_ ?_)
 all_goals first |with_reducible exact KM |with_reducible exact XP |with_reducible exact JQ |with_reducible exact zbq |with_reducible exact jan_laid |with_reducible exact jan_maps |with_reducible exact zbo |with_reducible exact zbp |with_reducible exact Wm |(as_aux_lemma=>kernel_rfl)
end
end Go.Proofs.YtfnkbmglodopkaaGreatDoor
