/- What a lifting wants: what was handed in reads as it did; bounded bulk. -/
import Derived.Test.YtcgleficedipkaaGreatDoorYUnA
import Derived.Test.YtcgleficedipkaaGreatDoorYKeA
import Derived.Test.YtcgleficedipkaaGreatDoorTie
import Derived.Test.YtcgleficedipkaaGreatDoorCards
import Derived.ProofKit
import Derived.LaidMore
import Derived.SevenTiedAt
import Derived.ReadAgain
namespace Go.Proofs.YtcgleficedipkaaGreatDoor
section
open Go.ChangeShapes Go.WideShapes Go.ChangeAt Go.RowKit
open Go.ChangeMaps (open_string)
theorem Tryz.kids:Kids Tryz.prog (· < Tryz.prog.types.size):=kids_rows (by kernel_rfl) (by kernel_rfl)
theorem Tryz.full:∀ t e,t<Tryz.prog.types.size→Tryz.prog.underlying t=some (.slice e)→0<Tryz.prog.cellsOf e:=slices_full_of Tryz.prog (by kernel_rfl)
section
variable {H:Type} {enc:TypeId×Value→H}
theorem qd {W W':World}{sp:Nat→Bool}(hO:ze (fun _=>False) W W'):∀ {ts:List TypeId} {vs:List Value} {ds:List (DataW H)} {ps:List MemPlace},DataW.TrodAll enc Tryz.prog W 0 sp true ts vs ds ps→(∀ q∈ps,q.block<W.heap.size)→DataW.TrodAll enc Tryz.prog W' 0 sp true ts vs ds ps
 | [],[],[],_,h,_=>h
 |_ :: _,_ :: _,_ :: _,_,⟨p,q,⟨n,h1⟩,h2,e⟩,hl=>⟨p,q,⟨n,DataW.trod_carry n _ _ _ h1 (fun x hx=>by
   have hx':=hl x (by rw [e];exact List.mem_append_left _ hx)
   cases x with
   |cell b off=>exact hO.cell (p:=⟨b,off,none⟩) hx' (fun f=>f)
   |map b=>exact hO.block b hx' (fun f=>f))⟩,qd hO h2 (fun x hx=>hl x (by rw [e];exact List.mem_append_right _ hx)),e⟩
end
theorem qP {H:Type}{d:DataW H}:∀ {l:List (DataW H)},d∈l→Rows.uptoBulk d≤Rows.uptoBulkAll l
 | [],h=>by cases h
 |x :: r,h=>by
  simp only [Rows.uptoBulkAll]
  rcases List.mem_cons.1 h with rfl |e
  ·omega
  ·have:=qP e
   omega
theorem xP {H:Type}(s:ByteArray):s.size<Rows.uptoBulk (DataW.lit (H:=H) (.string s.data.toList)):=by
 have e:s.data.toList.length=s.size:=by rw [Array.length_toList];rfl
 simp only [Rows.uptoBulk]
 omega
theorem wO {H:Type}{l:List (DataW H)}(h:Rows.uptoSmall H l=true):Rows.uptoBulkAll l≤1048576:=of_decide_eq_true h
end
end Go.Proofs.YtcgleficedipkaaGreatDoor
