/- The reader's letters beside the lexer's bytes. -/
import Derived.Test.YtcgleficedipkaaGreatDoorYSemGParC
namespace Go.Proofs.YtcgleficedipkaaGreatDoor
section
open Go.RowKit
namespace Eqv
end Eqv
namespace Eqv
variable {s:ByteArray} {L:List (Int×Int)}
end Eqv
namespace Eqv
variable {s:ByteArray} {L:List (Int×Int)}
end Eqv
namespace Eqv
variable {s:ByteArray} {L:List (Int×Int)}
end Eqv
namespace Eqv
variable {s:ByteArray} {L:List (Int×Int)}
end Eqv
namespace Eqv
variable {s:ByteArray} {L:List (Int×Int)}
end Eqv
namespace Eqv
variable {s:ByteArray} {L:List (Int×Int)}
end Eqv
namespace Ref
def scan:List Tok→Int→Nat→Option Nat
 | [],_,_=>none
 |t :: r,op,k=>if turnO t.kind op=0 then some k else scan r (turnO t.kind op) (k+1)
end Ref
namespace Eqv
variable {s:ByteArray} {L:List (Int×Int)}
end Eqv
end
end Go.Proofs.YtcgleficedipkaaGreatDoor
