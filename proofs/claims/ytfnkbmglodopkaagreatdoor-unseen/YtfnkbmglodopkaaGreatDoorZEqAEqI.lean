/- The reader's letters beside the lexer's bytes. The reader's escapes beside the lexer's. The reader's escapes beside the lexer's: whole. The reader's escapes and classes beside the lexer's. The reader's classes, counts and quantifiers beside the lexer's. The reader's counts, quantifiers and openings beside the lexer's. The reader's quantifiers and openings beside the lexer's. The sizes of tokens in a row. The reader beside the lexer: what an atom's tokens add, with its quantifier. -/
import Derived.Test.YtfnkbmglodopkaaGreatDoorZRefARefV
import Derived.Test.YtfnkbmglodopkaaGreatDoorZProAProJ
import Derived.Test.YtfnkbmglodopkaaGreatDoorZParAParC
namespace Go.Proofs.YtfnkbmglodopkaaGreatDoor
section
open Go.RowKit
namespace Eqv
end Eqv
namespace Eqv
variable {s : ByteArray} {L : List (Int × Int)}
end Eqv
namespace Eqv
variable {s : ByteArray} {L : List (Int × Int)}
end Eqv
namespace Eqv
variable {s : ByteArray} {L : List (Int × Int)}
end Eqv
namespace Eqv
variable {s : ByteArray} {L : List (Int × Int)}
end Eqv
namespace Eqv
variable {s : ByteArray} {L : List (Int × Int)}
end Eqv
namespace Eqv
variable {s : ByteArray} {L : List (Int × Int)}
end Eqv
namespace Ref
def scan : List Tok → Int → Nat → Option Nat
 | [], _, _ => none
 | t :: r, op, k => if turnO t.kind op = 0 then some k else scan r (turnO t.kind op) (k + 1)
end Ref
namespace Eqv
variable {s : ByteArray} {L : List (Int × Int)}
end Eqv
end
end Go.Proofs.YtfnkbmglodopkaaGreatDoor
