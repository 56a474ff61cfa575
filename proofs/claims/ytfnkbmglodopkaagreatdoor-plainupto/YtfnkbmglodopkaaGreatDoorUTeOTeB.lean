/- The reader's faults are never of the first kind. -/
import Derived.Test.YtfnkbmglodopkaaGreatDoorYKcAKcI
namespace Go.Proofs.YtfnkbmglodopkaaGreatDoor
section
open Go.RowKit
namespace Pro
variable {L:List (Int×Int)} {len:Int}
end Pro
open Sm (Stp Tree capT)
set_option maxHeartbeats 8000000
set_option maxRecDepth 1000000
end
end Go.Proofs.YtfnkbmglodopkaaGreatDoor
