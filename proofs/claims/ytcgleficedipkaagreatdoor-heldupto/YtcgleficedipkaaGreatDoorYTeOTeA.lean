/- The reader's faults are never of the first kind. -/
import Derived.Test.YtcgleficedipkaaGreatDoorYKcAKcL
namespace Go.Proofs.YtcgleficedipkaaGreatDoor
section
open Go.RowKit
namespace Pro
variable {L:List (Int×Int)} {len:Int}
end Pro
open Sm (Stp Tree capT)

end
end Go.Proofs.YtcgleficedipkaaGreatDoor
