/- The closed facts of TimesUpto's row over the whole program, together. -/
import Derived.Test.YtfnkbmglodopkaaGreatDoorYTiJTiJ3
import Derived.Test.YtfnkbmglodopkaaGreatDoorYTiJ4
namespace Go.Proofs.YtfnkbmglodopkaaGreatDoor
section
theorem and_ofTi {a b:Bool}(h:a=true)(k:b=true):(a && b)=true:=by rw [h,k];rfl
theorem closedTi:joinedFacts Tryz.prog 7 Tryz.f7 (Rows.OpenSpec.upto Rows.timesSpec).bare Rows.timesUptoRow=true:=by
 unfold joinedFacts
 repeat' (with_reducible refine and_ofTi ?_ ?_)
 all_goals first |with_reducible exact zdh |with_reducible exact zdc |with_reducible exact zdg |with_reducible exact zdr |with_reducible exact jti_laid |with_reducible exact jti_maps |with_reducible exact zdp |with_reducible exact zdq |with_reducible exact zdj |(as_aux_lemma=>kernel_rfl)
end
end Go.Proofs.YtfnkbmglodopkaaGreatDoor
