/- What leaves take: the lexer's tokens beside the reader's trees. -/
import Derived.Test.YtfnkbmglodopkaaGreatDoorZEqAEqI
import Derived.Test.YtfnkbmglodopkaaGreatDoorZTrATrH
namespace Go.Proofs.YtfnkbmglodopkaaGreatDoor
section
open Go.RowKit
open Sm (Tree)
namespace Eqv
variable {s:ByteArray} {L:List (Int×Int)}
def inSp (sp:List (Int×Int))(c:Int):Bool:=sp.any fun x=>decide (x.1≤c) && decide (c≤x.2)
def inPt (p:Pt)(c:Int):Bool:=inSp p.spans c != p.neg
def jJ (a c:Int):Bool:=inPt ⟨decide (a<97),Ref.setL a⟩ c
def kX (R:List (Int×Int))(S:List Int)(c:Int):Bool:=inSp R c ||S.any fun a=>jJ a c
def Zj (T:Tree)(c:Int):Bool:=
 if T.kind=1 then !inSp [(10,10),(13,13),(8232,8233)] c
 else if T.kind=2 then decide (c=T.a)
 else if T.kind=3 then jJ T.a c
 else if T.kind=4 then kX T.rs T.ss c != T.neg
 else false
theorem inSp_one (a c:Int):inSp [(a,a)] c=decide (c=a):=by
 unfold inSp
 simp only [List.any_cons,List.any_nil,Bool.or_false]
 by_cases h:c=a
 ·subst h;simp
 ·simp only [h,decide_false]
  by_cases h2:a≤c
  ·simp [h2];omega
  ·simp [h2]
end Eqv
end
end Go.Proofs.YtfnkbmglodopkaaGreatDoor
