/- The law's own kinds of characters. -/
import Derived.Test.YtfnkbmglodopkaaGreatDoorUKnAKnF
namespace Go.Proofs.YtfnkbmglodopkaaGreatDoor
section
open Go.RowKit
set_option maxHeartbeats 4000000
namespace Kn
end Kn
end
end Go.Proofs.YtfnkbmglodopkaaGreatDoor
