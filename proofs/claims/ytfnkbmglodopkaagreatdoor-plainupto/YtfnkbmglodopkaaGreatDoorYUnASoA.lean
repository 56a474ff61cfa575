/- Lists of texts and of numbers that are handed in: what their reading gives the walks. -/
import Derived.ChangeSlices
import Derived.SliceStrings
import Derived.SizedLaws
import Derived.OpenShut
import Derived.KernelRfl
import Derived.Test.YtfnkbmglodopkaaGreatDoorYKeA
namespace Go.Proofs.YtfnkbmglodopkaaGreatDoor
section
open Go.RowKit Go.Deep Go.ChangeShapes
section
variable {H:Type} {enc:TypeId×Value→H}
theorem zak {W:World}{n:Int}{d:DataW H}{p:List MemPlace}(h:DataW.Trod enc Tryz.prog W 0 (fun _=>true) true 3 (.int .i64 n) d p):-9223372036854775808≤n∧n≤9223372036854775807:=by
 obtain ⟨fuel,h⟩:=h
 obtain ⟨k,r0,_,wp⟩:=DataW.trod_int Tryz.underlying3 h
 have e:n=k:=by simpa [Value.cells] using r0
 subst e
 exact bounds_i64 wp
end
theorem qP {H:Type}{d:DataW H}:∀ {l:List (DataW H)},d∈l→Rows.uptoBulk d≤Rows.uptoBulkAll l
 | [],h=>by cases h
 |x :: r,h=>by
  simp only [Rows.uptoBulkAll]
  rcases List.mem_cons.1 h with rfl |e
  ·omega
  ·have:=qP e
   omega
theorem xP {H:Type}(s:ByteArray):s.size<Rows.uptoBulk (DataW.lit (H:=H) (.string s.data.toList)):=by
 have e:s.data.toList.length=s.size:=by rw [Array.length_toList];rfl
 simp only [Rows.uptoBulk]
 omega
theorem wO {H:Type}{l:List (DataW H)}(h:Rows.uptoSmall H l=true):Rows.uptoBulkAll l≤1048576:=of_decide_eq_true h
section
variable {H:Type} {enc:TypeId×Value→H}
end
end
end Go.Proofs.YtfnkbmglodopkaaGreatDoor
