/- The closed facts of Kinds's row over the whole program, together. -/
import Derived.Test.YtfnkbmglodopkaaGreatDoorYKiJKiJ3
import Derived.Test.YtfnkbmglodopkaaGreatDoorYKiJ4
namespace Go.Proofs.YtfnkbmglodopkaaGreatDoor
section
theorem and_ofKi {a b:Bool}(h:a=true)(k:b=true):(a && b)=true:=by rw [h,k];rfl
theorem closedKi:joinedFacts Tryz.prog 9 Tryz.f9 (OpenSpec.ofChange Rows.kindsSpec).bare Rows.kindsRow=true:=by
 unfold joinedFacts
 repeat' (with_reducible refine and_ofKi ?_ ?_)
 all_goals first |with_reducible exact zdH |with_reducible exact zdA |with_reducible exact zdE |with_reducible exact zdS |with_reducible exact jki_laid |with_reducible exact jki_maps |with_reducible exact zdQ |with_reducible exact zdR |with_reducible exact zdJ |(as_aux_lemma=>kernel_rfl)
end
end Go.Proofs.YtfnkbmglodopkaaGreatDoor
