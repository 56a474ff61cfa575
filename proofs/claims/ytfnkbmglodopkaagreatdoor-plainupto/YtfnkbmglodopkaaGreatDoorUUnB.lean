/- Unseen at whatever arguments, and its row's form. -/
import Derived.Test.YtfnkbmglodopkaaGreatDoorYUnASoA
import Derived.Test.YtfnkbmglodopkaaGreatDoorTie
import Derived.Test.YtfnkbmglodopkaaGreatDoorCards
import Derived.ProofKit
import Derived.LaidMore
import Derived.SevenTiedAt
import Derived.ReadAgain
namespace Go.Proofs.YtfnkbmglodopkaaGreatDoor
section
open Go.ChangeShapes Go.WideShapes Go.ChangeAt Go.RowKit
open Go.ChangeMaps (open_string)
theorem Tryz.kids:Kids Tryz.prog (· < Tryz.prog.types.size):=kids_rows (by kernel_rfl) (by kernel_rfl)
theorem Tryz.full:∀ t e,t<Tryz.prog.types.size→Tryz.prog.underlying t=some (.slice e)→0<Tryz.prog.cellsOf e:=slices_full_of Tryz.prog (by kernel_rfl)
section
variable {H:Type} {enc:TypeId×Value→H}
theorem qd {W W':World}{sp:Nat→Bool}(hO:ze (fun _=>False) W W'):∀ {ts:List TypeId} {vs:List Value} {ds:List (DataW H)} {ps:List MemPlace},DataW.TrodAll enc Tryz.prog W 0 sp true ts vs ds ps→(∀ q∈ps,q.block<W.heap.size)→DataW.TrodAll enc Tryz.prog W' 0 sp true ts vs ds ps
 | [],[],[],_,h,_=>h
 |_ :: _,_ :: _,_ :: _,_,⟨p,q,⟨n,h1⟩,h2,e⟩,hl=>⟨p,q,⟨n,DataW.trod_carry n _ _ _ h1 (fun x hx=>by
   have hx':=hl x (by rw [e];exact List.mem_append_left _ hx)
   cases x with
   |cell b off=>exact hO.cell (p:=⟨b,off,none⟩) hx' (fun f=>f)
   |map b=>exact hO.block b hx' (fun f=>f))⟩,qd hO h2 (fun x hx=>hl x (by rw [e];exact List.mem_append_right _ hx)),e⟩
end
end
end Go.Proofs.YtfnkbmglodopkaaGreatDoor
