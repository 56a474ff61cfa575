/- The closed facts of StarredUpto's row over the whole program, together. -/
import Derived.Test.YtfnkbmglodopkaaGreatDoorYSrJSrJ3
import Derived.Test.YtfnkbmglodopkaaGreatDoorYSrJ4
namespace Go.Proofs.YtfnkbmglodopkaaGreatDoor
section
theorem and_ofSr {a b:Bool}(h:a=true)(k:b=true):(a && b)=true:=by rw [h,k];rfl
theorem closedSr:joinedFacts Tryz.prog 6 Tryz.f6 (Rows.OpenSpec.upto Rows.starredSpec).bare Rows.starredUptoRow=true:=by
 unfold joinedFacts
 repeat' (with_reducible refine and_ofSr ?_ ?_)
 all_goals first |with_reducible exact VU |with_reducible exact QD |with_reducible exact Kz |with_reducible exact zcM |with_reducible exact jsr_laid |with_reducible exact jsr_maps |with_reducible exact zcK |with_reducible exact zcL |with_reducible exact W8 |(as_aux_lemma=>kernel_rfl)
end
end Go.Proofs.YtfnkbmglodopkaaGreatDoor
