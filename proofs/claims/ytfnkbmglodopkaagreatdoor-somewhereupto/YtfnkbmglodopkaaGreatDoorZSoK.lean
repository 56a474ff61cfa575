/- The closed facts of SomewhereUpto's row over the whole program, together. -/
import Derived.Test.YtfnkbmglodopkaaGreatDoorZSoJSoJ3
import Derived.Test.YtfnkbmglodopkaaGreatDoorZSoJ4
namespace Go.Proofs.YtfnkbmglodopkaaGreatDoor
section
theorem and_ofSo {a b:Bool}(h:a=true)(k:b=true):(a && b)=true:=by rw [h,k];rfl
theorem closedSo:joinedFacts Tryz.prog 12 Tryz.f12 (Rows.OpenSpec.upto Rows.somewhereSpec).bare Rows.somewhereUptoRow=true:=by
 unfold joinedFacts
 repeat' (with_reducible refine and_ofSo ?_ ?_)
 all_goals first |with_reducible exact J3 |with_reducible exact YM |with_reducible exact Jd |with_reducible exact js_named |with_reducible exact js_laid |with_reducible exact js_maps |with_reducible exact js_enter |with_reducible exact js_heard |with_reducible exact VW |(as_aux_lemma=>kernel_rfl)
end
end Go.Proofs.YtfnkbmglodopkaaGreatDoor
