/- The closed facts of Unseen's row over the whole program, together. -/
import Derived.Test.YtfnkbmglodopkaaGreatDoorZUnJ
import Derived.Test.YtfnkbmglodopkaaGreatDoorZUnJ2
import Derived.Test.YtfnkbmglodopkaaGreatDoorZUnJ3
import Derived.Test.YtfnkbmglodopkaaGreatDoorZUnJ4
namespace Go.Proofs.YtfnkbmglodopkaaGreatDoor
section
theorem and_ofUn {a b : Bool} (h : a = true) (k : b = true) : (a && b) = true := by rw [h, k]; rfl
theorem closedUn : joinedFacts Tryz.prog 13 Tryz.f13 Rows.unseenSpec Rows.unseenRow = true := by
 unfold joinedFacts
 repeat' (with_reducible refine and_ofUn ?_ ?_)
 all_goals first | with_reducible exact ju_inPlace | with_reducible exact ju_unfollowed | with_reducible exact ju_recurses | with_reducible exact ju_named | with_reducible exact ju_laid | with_reducible exact ju_maps | with_reducible exact ju_enter | with_reducible exact ju_heard | with_reducible exact ju_lifted | (as_aux_lemma => kernel_rfl)
end
end Go.Proofs.YtfnkbmglodopkaaGreatDoor
