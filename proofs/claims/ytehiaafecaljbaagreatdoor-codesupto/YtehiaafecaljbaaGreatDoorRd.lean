/- The program's Codes at any slice: see We. -/
import Derived.Test.YtehiaafecaljbaaGreatDoorRc
namespace Go.Proofs.YtehiaafecaljbaaGreatDoor
end Go.Proofs.YtehiaafecaljbaaGreatDoor
