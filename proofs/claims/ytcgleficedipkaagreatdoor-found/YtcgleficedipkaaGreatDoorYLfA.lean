/- What a lifting wants: what was handed in reads as it did; bounded bulk. -/
import Derived.Test.YtcgleficedipkaaGreatDoorYKeAUnA
import Derived.Test.YtcgleficedipkaaGreatDoorTie
import Derived.Test.YtcgleficedipkaaGreatDoorCards
import Derived.ProofKit
import Derived.LaidMore
import Derived.SevenTiedAt
import Derived.ReadAgain
namespace Go.Proofs.YtcgleficedipkaaGreatDoor
section
open Go.ChangeShapes Go.WideShapes Go.ChangeAt Go.RowKit
open Go.ChangeMaps (open_string)
theorem Tryz.kids:Kids Tryz.prog (· < Tryz.prog.types.size):=kids_rows (by kernel_rfl) (by kernel_rfl)
theorem Tryz.full:∀ t e,t<Tryz.prog.types.size->Tryz.prog.underlying t=some (.slice e)->0<Tryz.prog.cellsOf e:=slices_full_of Tryz.prog (by kernel_rfl)
section
variable {H:Type} {enc:TypeId×Value->H}
theorem qd {W W':World}{sp:Nat->Bool}(hO:Q8 W W'):∀ {ts:List TypeId} {vs:List Value} {ds:List (DataW H)} {ps:List MemPlace},DataW.TrodAll enc Tryz.prog W 0 sp true ts vs ds ps->(∀ q∈ps,q.block<W.heap.size)->DataW.TrodAll enc Tryz.prog W' 0 sp true ts vs ds ps
 | [],[],[],_,h,_=>h
 |_ :: _,_ :: _,_ :: _,_,⟨p,q,⟨n,h1⟩,h2,e⟩,hl=>⟨p,q,⟨n,DataW.trod_carry n _ _ _ h1 (fun x hx=>by
   have hx':=hl x (by rw [e];exact Yb _ hx);cases x with
   |cell b off=>exact hO.cell (p:=⟨b,off,none⟩) hx' (fun f=>f)
   |map b=>exact hO.block b hx' (fun f=>f))⟩,qd hO h2 (fun x hx=>hl x (by rw [e];exact XC _ hx)),e⟩
end
end
end Go.Proofs.YtcgleficedipkaaGreatDoor
