/- The statement's own functions: what is looked at behind each step. -/
import Derived.Test.YtnagphodmfejiaaGreatDoorX33
namespace Go.Proofs.YtnagphodmfejiaaGreatDoor
section
open Go.RowKit

open Sm (Tree)

def zaX:Obj:=.cells #[.slice none 0 0,.slice none 0 0,.slice none 0 0,.slice none 0 0,.slice none 0 0,.slice none 0 0,.slice none 0 0,.slice none 0 0,.slice none 0 0,.slice none 0 0,.int .i64 0] 40
end
end Go.Proofs.YtnagphodmfejiaaGreatDoor
