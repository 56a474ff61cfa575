/- Two schemas, as they are handed in: are their numbers right? A copy of a row of one number. -/
import Derived.Test.YtcgleficedipkaaGreatDoorYLinAHeF
import Derived.Laws.Append
import Derived.Test.YtcgleficedipkaaGreatDoorTie
import Derived.Test.YtcgleficedipkaaGreatDoorCards
import Derived.ProofKit
import Derived.LaidMore
import Derived.SevenTiedAt
import Derived.ReadAgain
namespace Go.Proofs.YtcgleficedipkaaGreatDoor
open Option renaming none->U,some->I
open Value renaming slice->K,bool->C
open Bool renaming true->G
open Go renaming World->E,Value->Y
section
open Go.RowKit

theorem nil_eqI (x:Option Addr)(l c:Nat)(a:E):(binOp .eql 27 (K x l c) (K U 0 0)).run Tryz.prog a=.ok (C x.isNone) a:=by have h:=run_equal_slice_nil (P:=Tryz.prog) a 27 3 x l c Tryz.underlying27;simp[binOp,h]
end
section
open Go.ChangeShapes Go.WideShapes Go.ChangeAt Go.RowKit
open Go.ChangeMaps (open_string)
theorem Tryz.kids:Kids Tryz.prog (· < Tryz.prog.types.size):=kids_rows om om
theorem Tryz.full:∀t e,t<Tryz.prog.types.size->Tryz.prog.underlying t=I (.slice e)->0<Tryz.prog.cellsOf e:=slices_full_of Tryz.prog om
section
variable {H:Type} {enc:TypeId×Value->H}
theorem XD {W W':E}{j:Nat->Bool}(a:ziE W W'):∀{k:List TypeId} {l:List Y} {d:List (DataW H)} {ps:List MemPlace},DataW.TrodAll enc Tryz.prog W 0 j G k l d ps->(∀q∈ps,q.block<W.heap.size)->DataW.TrodAll enc Tryz.prog W' 0 j G k l d ps
 | [],[],[],_,h,_=>h
 |_ :: _,_ :: _,_ :: _,_,⟨p,q,⟨n,m⟩,o,e⟩,g=>⟨p,q,⟨n,DataW.trod_carry n _ _ _ m (λx c=>by
   have i:=g x (by rw[e];exact zh1 _ c);cases x with
   |cell b off=>exact a.cell (p:=⟨b,off,U⟩) i id
   |map b=>exact a.block b i id)⟩,XD a o (λx c=>g x (by rw[e];exact ziw _ c)),e⟩
end
end
