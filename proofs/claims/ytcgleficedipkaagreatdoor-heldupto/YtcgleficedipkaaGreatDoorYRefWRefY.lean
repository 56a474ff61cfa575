/- The reference's sizes: an atom without its brackets. -/
import Derived.Test.YtcgleficedipkaaGreatDoorYEqAEqI
namespace Go.Proofs.YtcgleficedipkaaGreatDoor
section
open Go.RowKit
namespace Ref
end Ref
namespace Ref
end Ref
namespace Ref
end Ref
namespace Ref
end Ref
end
end Go.Proofs.YtcgleficedipkaaGreatDoor
