/- The reference's sizes: an atom without its brackets. -/
import Derived.Test.YtfnkbmglodopkaaGreatDoorYEqAEqI
namespace Go.Proofs.YtfnkbmglodopkaaGreatDoor
section
open Go.RowKit
namespace Ref
end Ref
namespace Ref
end Ref
namespace Ref
end Ref
namespace Ref
end Ref
end
end Go.Proofs.YtfnkbmglodopkaaGreatDoor
