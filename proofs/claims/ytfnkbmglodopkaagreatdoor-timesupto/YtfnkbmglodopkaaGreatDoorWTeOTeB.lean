/- The reader's faults are never of the first kind. -/
import Derived.Test.YtfnkbmglodopkaaGreatDoorYKcAKcI
namespace Go.Proofs.YtfnkbmglodopkaaGreatDoor
section
open Go.RowKit
namespace Pro
variable {L:List (Int×Int)} {len:Int}
end Pro
open Sm (Stp Tree capT)
theorem em_ch:(Ref.zo ByteArray.empty).2<0:=by decide +kernel
theorem em_out:(Pro.altP [] (ByteArray.empty.size:Nat) (Pro.zl [] (ByteArray.empty.size:Nat) 10) 0).k=0∧(Pro.altP [] (ByteArray.empty.size:Nat) (Pro.zl [] (ByteArray.empty.size:Nat) 10) 0).n=0∧(Pro.altP [] (ByteArray.empty.size:Nat) (Pro.zl [] (ByteArray.empty.size:Nat) 10) 0).v=0:=by decide +kernel
set_option maxHeartbeats 8000000
set_option maxRecDepth 1000000
end
end Go.Proofs.YtfnkbmglodopkaaGreatDoor
