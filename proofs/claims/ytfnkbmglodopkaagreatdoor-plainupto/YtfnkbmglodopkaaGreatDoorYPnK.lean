/- The closed facts of PlainUpto's row over the whole program, together. -/
import Derived.Test.YtfnkbmglodopkaaGreatDoorYPnJPnJ3
import Derived.Test.YtfnkbmglodopkaaGreatDoorYPnJ4
namespace Go.Proofs.YtfnkbmglodopkaaGreatDoor
section
theorem and_ofPn {a b:Bool}(h:a=true)(k:b=true):(a && b)=true:=by rw [h,k];rfl
theorem closedPn:joinedFacts Tryz.prog 10 Tryz.f10 (Rows.OpenSpec.upto Rows.plainSpec).bare Rows.plainUptoRow=true:=by
 unfold joinedFacts
 repeat' (with_reducible refine and_ofPn ?_ ?_)
 all_goals first |with_reducible exact zd8 |with_reducible exact zd2 |with_reducible exact zd7 |with_reducible exact zem |with_reducible exact jpn_laid |with_reducible exact jpn_maps |with_reducible exact zek |with_reducible exact zel |with_reducible exact zea |(as_aux_lemma=>kernel_rfl)
end
end Go.Proofs.YtfnkbmglodopkaaGreatDoor
