/- The closed facts of TextsUpto's row over the whole program, together. -/
import Derived.Test.YtfnkbmglodopkaaGreatDoorYTxJTxJ3
import Derived.Test.YtfnkbmglodopkaaGreatDoorYTxJ4
namespace Go.Proofs.YtfnkbmglodopkaaGreatDoor
section
theorem and_ofTx {a b:Bool}(h:a=true)(k:b=true):(a && b)=true:=by rw [h,k];rfl
theorem closedTx:joinedFacts Tryz.prog 3 Tryz.f3 (Rows.OpenSpec.upto Rows.textsSpec).bare Rows.textsUptoRow=true:=by
 unfold joinedFacts
 repeat' (with_reducible refine and_ofTx ?_ ?_)
 all_goals first |with_reducible exact Wl |with_reducible exact QN |with_reducible exact KL |with_reducible exact zc9 |with_reducible exact jtx_laid |with_reducible exact jtx_maps |with_reducible exact zc7 |with_reducible exact zc8 |with_reducible exact zaj |(as_aux_lemma=>kernel_rfl)
end
end Go.Proofs.YtfnkbmglodopkaaGreatDoor
