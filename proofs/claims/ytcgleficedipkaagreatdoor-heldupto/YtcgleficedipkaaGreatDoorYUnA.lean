/- Lists of texts and of numbers that are handed in: what their reading gives the walks. -/
import Derived.Test.YtcgleficedipkaaGreatDoorYLinALinF
import Derived.ChangeSlices
import Derived.SliceStrings
import Derived.SizedLaws
import Derived.OpenShut
import Derived.KernelRfl
namespace Go.Proofs.YtcgleficedipkaaGreatDoor
section
open Go.RowKit Go.Deep Go.ChangeShapes
section
variable {H:Type} {enc:TypeId×Value→H}
theorem zak {W:World}{n:Int}{d:DataW H}{p:List MemPlace}(h:DataW.Trod enc Tryz.prog W 0 (fun _=>true) true 3 (.int .i64 n) d p):-9223372036854775808≤n∧n≤9223372036854775807:=by
 obtain ⟨fuel,h⟩:=h
 obtain ⟨k,r0,_,wp⟩:=DataW.trod_int Tryz.underlying3 h
 have e:n=k:=by simpa [Value.cells] using r0
 subst e
 exact bounds_i64 wp
end
end
end Go.Proofs.YtcgleficedipkaaGreatDoor
