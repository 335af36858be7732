/- The program's Codes at any slice: see We. -/
import Derived.Test.YtbcjmakpempkiaaGreatDoorRc
namespace Go.Proofs.YtbcjmakpempkiaaGreatDoor
end Go.Proofs.YtbcjmakpempkiaaGreatDoor
