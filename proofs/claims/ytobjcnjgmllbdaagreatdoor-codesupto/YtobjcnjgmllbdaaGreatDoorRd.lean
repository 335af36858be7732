/- The program's Codes at any slice: see We. -/
import Derived.Test.YtobjcnjgmllbdaaGreatDoorRc
namespace Go.Proofs.YtobjcnjgmllbdaaGreatDoor
end Go.Proofs.YtobjcnjgmllbdaaGreatDoor
