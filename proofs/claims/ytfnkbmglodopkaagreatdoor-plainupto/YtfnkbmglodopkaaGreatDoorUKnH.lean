/- Kinds: the law's walk. -/
import Derived.Test.YtfnkbmglodopkaaGreatDoorUKnG
namespace Go.Proofs.YtfnkbmglodopkaaGreatDoor
section
open Go.RowKit
set_option maxHeartbeats 16000000
set_option maxRecDepth 1000000
namespace Kn
end Kn
end
end Go.Proofs.YtfnkbmglodopkaaGreatDoor
