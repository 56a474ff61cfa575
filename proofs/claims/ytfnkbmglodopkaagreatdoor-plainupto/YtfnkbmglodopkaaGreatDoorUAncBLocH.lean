/- Anchored: the law. -/
import Derived.Test.YtfnkbmglodopkaaGreatDoorULocAAncA
namespace Go.Proofs.YtfnkbmglodopkaaGreatDoor
section
open Go.RowKit
open Sm (Stp Tree capT)
set_option maxHeartbeats 8000000
set_option maxRecDepth 1000000
end
section
open Sm (Tree)
namespace Pro
end Pro
namespace Pro
end Pro
namespace Pro
end Pro
end
end Go.Proofs.YtfnkbmglodopkaaGreatDoor
