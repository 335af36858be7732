/-
  NARROWER THAN 'FOR EVERY INPUT', by the rows' own cells (each row's printed sentence says how): Codes: laid · Blocks: laid · Packed: laid · Means: laid · Framed: laid · Gates: laid · Pieces: laid · Bounds: laid · All: laid.
  DERIVED. THE GIVEN ROWS OF THIS SEAT. 9 by the template 'for every input the law returns true; each argument reads behind the call as it read before'; 0 by the template 'total and deterministic' (their statements: YtbcjmakpempkiaaGreatDoorTotals.lean).
  GIVEN WITH THE SEED: the statements are not yours to turn. If you find one false, say at which input.
  Laid BY PROGRAM, IN A SANDBOX (cutbox-rows.mjs): the forced cells as the released guide's own fill.sh prints them over the translation 5868f5788daa62e4… (all of the seat's roots in one cut). By AI agents, Wed Nov 11 2026. No macro, syntax, notation, axiom, sorry.
-/
import Derived.Test.YtbcjmakpempkiaaGreatDoorChecked
import GoSem.Claim
import GoSem.ClaimJoined
import GoSem.ClaimMapViews
import Derived.JoinedTies
import Derived.KernelRfl
namespace Go.Proofs.YtbcjmakpempkiaaGreatDoor
/- THE CELL 'sum', in the pinned program and in every row, IS THE sha256 OF THE DUMP (.gsa) THAT YtbcjmakpempkiaaGreatDoorProg.lean LOADS. Nothing in Lean hashes anything: it is a label: what it is worth is what the hold of that sum in a sandbox is worth. -/
noncomputable def Tryz.pinned : Pinned := { name := "ytbcjmakpempkiaagreatdoor", sum := "5868f5788daa62e487ad23ff283a99e56c55c9302d7840e183ff808ef7d9d73c", checked := Tryz.checked }
namespace Rows
def none {H : Type} : Left H := { results := [], args := [] }

/- WHAT THE LISTED PACKAGE-LEVEL VARIABLES READ AS WHEN THE CALL BEGINS. Each datum BY PROGRAM (the guide's laid-datum.mjs) off the statement by which the dump's own 'gosem.cut.vars' lays the variable. In a bare row this is a premise. The card (YtbcjmakpempkiaaGreatDoorCards.lean) ties it to the program's text. -/
def laid_floodgate_floodgateref_order {H : Type} : DataW H := .agg [.lit (.int .i64 13), .lit (.int .i64 14), .lit (.int .i64 12), .lit (.int .i64 0), .lit (.int .i64 7), .lit (.int .i64 8), .lit (.int .i64 6), .lit (.int .i64 9), .lit (.int .i64 5), .lit (.int .i64 10), .lit (.int .i64 4), .lit (.int .i64 11), .lit (.int .i64 3), .lit (.int .i64 2), .lit (.int .i64 1)]
def laid_math_bits_deBruijn32tab {H : Type} : DataW H := .agg [.lit (.int .u8 0), .lit (.int .u8 1), .lit (.int .u8 28), .lit (.int .u8 2), .lit (.int .u8 29), .lit (.int .u8 14), .lit (.int .u8 24), .lit (.int .u8 3), .lit (.int .u8 30), .lit (.int .u8 22), .lit (.int .u8 20), .lit (.int .u8 15), .lit (.int .u8 25), .lit (.int .u8 17), .lit (.int .u8 4), .lit (.int .u8 8), .lit (.int .u8 31), .lit (.int .u8 27), .lit (.int .u8 13), .lit (.int .u8 23), .lit (.int .u8 21), .lit (.int .u8 19), .lit (.int .u8 16), .lit (.int .u8 7), .lit (.int .u8 26), .lit (.int .u8 12), .lit (.int .u8 18), .lit (.int .u8 6), .lit (.int .u8 11), .lit (.int .u8 5), .lit (.int .u8 10), .lit (.int .u8 9)]
def laid_math_bits_deBruijn64tab {H : Type} : DataW H := .agg [.lit (.int .u8 0), .lit (.int .u8 1), .lit (.int .u8 56), .lit (.int .u8 2), .lit (.int .u8 57), .lit (.int .u8 49), .lit (.int .u8 28), .lit (.int .u8 3), .lit (.int .u8 61), .lit (.int .u8 58), .lit (.int .u8 42), .lit (.int .u8 50), .lit (.int .u8 38), .lit (.int .u8 29), .lit (.int .u8 17), .lit (.int .u8 4), .lit (.int .u8 62), .lit (.int .u8 47), .lit (.int .u8 59), .lit (.int .u8 36), .lit (.int .u8 45), .lit (.int .u8 43), .lit (.int .u8 51), .lit (.int .u8 22), .lit (.int .u8 53), .lit (.int .u8 39), .lit (.int .u8 33), .lit (.int .u8 30), .lit (.int .u8 24), .lit (.int .u8 18), .lit (.int .u8 12), .lit (.int .u8 5), .lit (.int .u8 63), .lit (.int .u8 55), .lit (.int .u8 48), .lit (.int .u8 27), .lit (.int .u8 60), .lit (.int .u8 41), .lit (.int .u8 37), .lit (.int .u8 16), .lit (.int .u8 46), .lit (.int .u8 35), .lit (.int .u8 44), .lit (.int .u8 21), .lit (.int .u8 52), .lit (.int .u8 32), .lit (.int .u8 23), .lit (.int .u8 11), .lit (.int .u8 54), .lit (.int .u8 26), .lit (.int .u8 40), .lit (.int .u8 15), .lit (.int .u8 34), .lit (.int .u8 20), .lit (.int .u8 31), .lit (.int .u8 10), .lit (.int .u8 25), .lit (.int .u8 14), .lit (.int .u8 19), .lit (.int .u8 9), .lit (.int .u8 13), .lit (.int .u8 8), .lit (.int .u8 7), .lit (.int .u8 6)]
def laid_internal_strconv_uint64pow10 {H : Type} : DataW H := .agg [.lit (.int .u64 1), .lit (.int .u64 10), .lit (.int .u64 100), .lit (.int .u64 1000), .lit (.int .u64 10000), .lit (.int .u64 100000), .lit (.int .u64 1000000), .lit (.int .u64 10000000), .lit (.int .u64 100000000), .lit (.int .u64 1000000000), .lit (.int .u64 10000000000), .lit (.int .u64 100000000000), .lit (.int .u64 1000000000000), .lit (.int .u64 10000000000000), .lit (.int .u64 100000000000000), .lit (.int .u64 1000000000000000), .lit (.int .u64 10000000000000000), .lit (.int .u64 100000000000000000), .lit (.int .u64 1000000000000000000), .lit (.int .u64 10000000000000000000)]
def laid_floodgate_floodgate_helperOrder {H : Type} : DataW H := .agg [.lit (.int .i64 13), .lit (.int .i64 14), .lit (.int .i64 12), .lit (.int .i64 0), .lit (.int .i64 7), .lit (.int .i64 8), .lit (.int .i64 6), .lit (.int .i64 9), .lit (.int .i64 5), .lit (.int .i64 10), .lit (.int .i64 4), .lit (.int .i64 11), .lit (.int .i64 3), .lit (.int .i64 2), .lit (.int .i64 1)]

/-- 'floodgatelaw.Codes': WHATEVER THE INPUT: true; the input reads as it did. -/
def codesSpec : ChangeSpec := { name := "codes", fn := fun _ => fun
  | [d] => { results := [.lit (.bool true)], args := [d] }
  | _ => none }
def codesRow : OpenClaim := { program := "ytbcjmakpempkiaagreatdoor", sum := "5868f5788daa62e487ad23ff283a99e56c55c9302d7840e183ff808ef7d9d73c", func := "floodgate/floodgatelaw.Codes", spec := "codes", inPlace := ["internal/abi.NoEscape"], unfollowed := true, recurses := true, named := ["floodgate/floodgate.helperOrder", "floodgate/floodgateref.order", "internal/strconv.uint64pow10", "math/bits.deBruijn32tab", "math/bits.deBruijn64tab"], apart := false, laid := [("floodgate/floodgateref.order", laid_floodgate_floodgateref_order), ("math/bits.deBruijn32tab", laid_math_bits_deBruijn32tab), ("math/bits.deBruijn64tab", laid_math_bits_deBruijn64tab), ("internal/strconv.uint64pow10", laid_internal_strconv_uint64pow10), ("floodgate/floodgate.helperOrder", laid_floodgate_floodgate_helperOrder)] }
def CodesSaid : Prop := codesRow.holds Tryz.pinned (OpenSpec.ofChange codesSpec)

/-- ITS FALSE NEIGHBOUR: 'it returns false'. Refute it at one input. -/
def codesWrong : ChangeSpec := { name := "codes", fn := fun _ => fun
  | [d] => { results := [.lit (.bool false)], args := [d] }
  | _ => none }
def CodesWrongFalsely : Prop := codesRow.holds Tryz.pinned (OpenSpec.ofChange codesWrong)

/-- 'floodgatelaw.Blocks': WHATEVER THE INPUT: true; the input reads as it did. -/
def blocksSpec : ChangeSpec := { name := "blocks", fn := fun _ => fun
  | [d] => { results := [.lit (.bool true)], args := [d] }
  | _ => none }
def blocksRow : OpenClaim := { program := "ytbcjmakpempkiaagreatdoor", sum := "5868f5788daa62e487ad23ff283a99e56c55c9302d7840e183ff808ef7d9d73c", func := "floodgate/floodgatelaw.Blocks", spec := "blocks", inPlace := ["internal/abi.NoEscape"], unfollowed := true, recurses := true, named := ["floodgate/floodgate.helperOrder", "floodgate/floodgateref.order", "internal/strconv.uint64pow10", "math/bits.deBruijn32tab", "math/bits.deBruijn64tab"], apart := false, laid := [("floodgate/floodgateref.order", laid_floodgate_floodgateref_order), ("math/bits.deBruijn32tab", laid_math_bits_deBruijn32tab), ("math/bits.deBruijn64tab", laid_math_bits_deBruijn64tab), ("internal/strconv.uint64pow10", laid_internal_strconv_uint64pow10), ("floodgate/floodgate.helperOrder", laid_floodgate_floodgate_helperOrder)] }
def BlocksSaid : Prop := blocksRow.holds Tryz.pinned (OpenSpec.ofChange blocksSpec)

/-- ITS FALSE NEIGHBOUR: 'it returns false'. Refute it at one input. -/
def blocksWrong : ChangeSpec := { name := "blocks", fn := fun _ => fun
  | [d] => { results := [.lit (.bool false)], args := [d] }
  | _ => none }
def BlocksWrongFalsely : Prop := blocksRow.holds Tryz.pinned (OpenSpec.ofChange blocksWrong)

/-- 'floodgatekeep.Packed': WHATEVER THE INPUT: true; the input reads as it did. -/
def packedSpec : ChangeSpec := { name := "packed", fn := fun _ => fun
  | [d] => { results := [.lit (.bool true)], args := [d] }
  | _ => none }
def packedRow : OpenClaim := { program := "ytbcjmakpempkiaagreatdoor", sum := "5868f5788daa62e487ad23ff283a99e56c55c9302d7840e183ff808ef7d9d73c", func := "floodgate/floodgatekeep.Packed", spec := "packed", inPlace := ["internal/abi.NoEscape"], unfollowed := true, recurses := true, named := ["floodgate/floodgate.helperOrder"], apart := false, laid := [("floodgate/floodgate.helperOrder", laid_floodgate_floodgate_helperOrder)] }
def PackedSaid : Prop := packedRow.holds Tryz.pinned (OpenSpec.ofChange packedSpec)

/-- ITS FALSE NEIGHBOUR: 'it returns false'. Refute it at one input. -/
def packedWrong : ChangeSpec := { name := "packed", fn := fun _ => fun
  | [d] => { results := [.lit (.bool false)], args := [d] }
  | _ => none }
def PackedWrongFalsely : Prop := packedRow.holds Tryz.pinned (OpenSpec.ofChange packedWrong)

/-- 'floodgatelaw.Means': WHATEVER THE INPUT: true; the input reads as it did. -/
def meansSpec : ChangeSpec := { name := "means", fn := fun _ => fun
  | [d1, d2] => { results := [.lit (.bool true)], args := [d1, d2] }
  | _ => none }
def meansRow : OpenClaim := { program := "ytbcjmakpempkiaagreatdoor", sum := "5868f5788daa62e487ad23ff283a99e56c55c9302d7840e183ff808ef7d9d73c", func := "floodgate/floodgatelaw.Means", spec := "means", inPlace := ["internal/abi.NoEscape"], unfollowed := true, recurses := true, named := ["floodgate/floodgate.helperOrder", "floodgate/floodgateref.order", "internal/strconv.uint64pow10", "math/bits.deBruijn32tab", "math/bits.deBruijn64tab"], apart := false, laid := [("floodgate/floodgateref.order", laid_floodgate_floodgateref_order), ("math/bits.deBruijn32tab", laid_math_bits_deBruijn32tab), ("math/bits.deBruijn64tab", laid_math_bits_deBruijn64tab), ("internal/strconv.uint64pow10", laid_internal_strconv_uint64pow10), ("floodgate/floodgate.helperOrder", laid_floodgate_floodgate_helperOrder)] }
def MeansSaid : Prop := meansRow.holds Tryz.pinned (OpenSpec.ofChange meansSpec)

/-- ITS FALSE NEIGHBOUR: 'it returns false'. Refute it at one input. -/
def meansWrong : ChangeSpec := { name := "means", fn := fun _ => fun
  | [d1, d2] => { results := [.lit (.bool false)], args := [d1, d2] }
  | _ => none }
def MeansWrongFalsely : Prop := meansRow.holds Tryz.pinned (OpenSpec.ofChange meansWrong)

/-- 'floodgatekeep.Framed': WHATEVER THE INPUT: true; the input reads as it did. -/
def framedSpec : ChangeSpec := { name := "framed", fn := fun _ => fun
  | [d1, d2, d3, d4, d5, d6, d7] => { results := [.lit (.bool true)], args := [d1, d2, d3, d4, d5, d6, d7] }
  | _ => none }
def framedRow : OpenClaim := { program := "ytbcjmakpempkiaagreatdoor", sum := "5868f5788daa62e487ad23ff283a99e56c55c9302d7840e183ff808ef7d9d73c", func := "floodgate/floodgatekeep.Framed", spec := "framed", inPlace := ["internal/abi.NoEscape"], unfollowed := true, recurses := true, named := ["floodgate/floodgate.helperOrder"], apart := false, laid := [("floodgate/floodgate.helperOrder", laid_floodgate_floodgate_helperOrder)] }
def FramedSaid : Prop := framedRow.holds Tryz.pinned (OpenSpec.ofChange framedSpec)

/-- ITS FALSE NEIGHBOUR: 'it returns false'. Refute it at one input. -/
def framedWrong : ChangeSpec := { name := "framed", fn := fun _ => fun
  | [d1, d2, d3, d4, d5, d6, d7] => { results := [.lit (.bool false)], args := [d1, d2, d3, d4, d5, d6, d7] }
  | _ => none }
def FramedWrongFalsely : Prop := framedRow.holds Tryz.pinned (OpenSpec.ofChange framedWrong)

/-- 'floodgatelaw.Gates': WHATEVER THE INPUT: true; the input reads as it did. -/
def gatesSpec : ChangeSpec := { name := "gates", fn := fun _ => fun
  | [d1, d2, d3] => { results := [.lit (.bool true)], args := [d1, d2, d3] }
  | _ => none }
def gatesRow : OpenClaim := { program := "ytbcjmakpempkiaagreatdoor", sum := "5868f5788daa62e487ad23ff283a99e56c55c9302d7840e183ff808ef7d9d73c", func := "floodgate/floodgatelaw.Gates", spec := "gates", inPlace := ["internal/abi.NoEscape"], unfollowed := true, recurses := true, named := ["floodgate/floodgate.helperOrder", "floodgate/floodgateref.order", "internal/strconv.uint64pow10", "math/bits.deBruijn32tab", "math/bits.deBruijn64tab"], apart := false, laid := [("floodgate/floodgateref.order", laid_floodgate_floodgateref_order), ("math/bits.deBruijn32tab", laid_math_bits_deBruijn32tab), ("math/bits.deBruijn64tab", laid_math_bits_deBruijn64tab), ("internal/strconv.uint64pow10", laid_internal_strconv_uint64pow10), ("floodgate/floodgate.helperOrder", laid_floodgate_floodgate_helperOrder)] }
def GatesSaid : Prop := gatesRow.holds Tryz.pinned (OpenSpec.ofChange gatesSpec)

/-- ITS FALSE NEIGHBOUR: 'it returns false'. Refute it at one input. -/
def gatesWrong : ChangeSpec := { name := "gates", fn := fun _ => fun
  | [d1, d2, d3] => { results := [.lit (.bool false)], args := [d1, d2, d3] }
  | _ => none }
def GatesWrongFalsely : Prop := gatesRow.holds Tryz.pinned (OpenSpec.ofChange gatesWrong)

/-- 'floodgatekeep.Pieces': WHATEVER THE INPUT: true; the input reads as it did. -/
def piecesSpec : ChangeSpec := { name := "pieces", fn := fun _ => fun
  | [d1, d2, d3, d4] => { results := [.lit (.bool true)], args := [d1, d2, d3, d4] }
  | _ => none }
def piecesRow : OpenClaim := { program := "ytbcjmakpempkiaagreatdoor", sum := "5868f5788daa62e487ad23ff283a99e56c55c9302d7840e183ff808ef7d9d73c", func := "floodgate/floodgatekeep.Pieces", spec := "pieces", inPlace := ["internal/abi.NoEscape"], unfollowed := true, recurses := true, named := ["floodgate/floodgate.helperOrder"], apart := false, laid := [("floodgate/floodgate.helperOrder", laid_floodgate_floodgate_helperOrder)] }
def PiecesSaid : Prop := piecesRow.holds Tryz.pinned (OpenSpec.ofChange piecesSpec)

/-- ITS FALSE NEIGHBOUR: 'it returns false'. Refute it at one input. -/
def piecesWrong : ChangeSpec := { name := "pieces", fn := fun _ => fun
  | [d1, d2, d3, d4] => { results := [.lit (.bool false)], args := [d1, d2, d3, d4] }
  | _ => none }
def PiecesWrongFalsely : Prop := piecesRow.holds Tryz.pinned (OpenSpec.ofChange piecesWrong)

/-- 'floodgatekeep.Bounds': WHATEVER THE INPUT: true; the input reads as it did. -/
def boundsSpec : ChangeSpec := { name := "bounds", fn := fun _ => fun
  | [d1, d2, d3] => { results := [.lit (.bool true)], args := [d1, d2, d3] }
  | _ => none }
def boundsRow : OpenClaim := { program := "ytbcjmakpempkiaagreatdoor", sum := "5868f5788daa62e487ad23ff283a99e56c55c9302d7840e183ff808ef7d9d73c", func := "floodgate/floodgatekeep.Bounds", spec := "bounds", unfollowed := true, recurses := true, named := ["floodgate/floodgate.helperOrder"], apart := false, laid := [("floodgate/floodgate.helperOrder", laid_floodgate_floodgate_helperOrder)] }
def BoundsSaid : Prop := boundsRow.holds Tryz.pinned (OpenSpec.ofChange boundsSpec)

/-- ITS FALSE NEIGHBOUR: 'it returns false'. Refute it at one input. -/
def boundsWrong : ChangeSpec := { name := "bounds", fn := fun _ => fun
  | [d1, d2, d3] => { results := [.lit (.bool false)], args := [d1, d2, d3] }
  | _ => none }
def BoundsWrongFalsely : Prop := boundsRow.holds Tryz.pinned (OpenSpec.ofChange boundsWrong)

/-- 'floodgatelaw.All': WHATEVER THE INPUT: true; the input reads as it did. -/
def allSpec : ChangeSpec := { name := "all", fn := fun _ => fun
  | [d1, d2, d3] => { results := [.lit (.bool true)], args := [d1, d2, d3] }
  | _ => none }
def allRow : OpenClaim := { program := "ytbcjmakpempkiaagreatdoor", sum := "5868f5788daa62e487ad23ff283a99e56c55c9302d7840e183ff808ef7d9d73c", func := "floodgate/floodgatelaw.All", spec := "all", inPlace := ["internal/abi.NoEscape"], unfollowed := true, recurses := true, named := ["floodgate/floodgate.helperOrder", "floodgate/floodgateref.order", "internal/strconv.uint64pow10", "math/bits.deBruijn32tab", "math/bits.deBruijn64tab"], apart := false, laid := [("floodgate/floodgateref.order", laid_floodgate_floodgateref_order), ("math/bits.deBruijn32tab", laid_math_bits_deBruijn32tab), ("math/bits.deBruijn64tab", laid_math_bits_deBruijn64tab), ("internal/strconv.uint64pow10", laid_internal_strconv_uint64pow10), ("floodgate/floodgate.helperOrder", laid_floodgate_floodgate_helperOrder)] }
def AllSaid : Prop := allRow.holds Tryz.pinned (OpenSpec.ofChange allSpec)

/-- ITS FALSE NEIGHBOUR: 'it returns false'. Refute it at one input. -/
def allWrong : ChangeSpec := { name := "all", fn := fun _ => fun
  | [d1, d2, d3] => { results := [.lit (.bool false)], args := [d1, d2, d3] }
  | _ => none }
def AllWrongFalsely : Prop := allRow.holds Tryz.pinned (OpenSpec.ofChange allWrong)

/- THE SECOND FORM. 'bulk': how many values and letters a reading holds, each counted each time it is reached (what is shared counts as often as it is met; a slice's spare places count too). A statement '..UptoSaid' is the law's where the arguments, and the package variables that the reading takes, are together of bulk at most 1048576: NARROWER than '..Said'. Prove '..Said' where nothing that the law and all that it calls make is longer than what came in: it says more and counts as full. Else prove '..UptoSaid'. A law counts once. -/
mutual
def uptoBulk {H : Type} : DataW H → Nat
  | .lit (.string bytes) => bytes.length + 1
  | .lit _ => 1
  | .nil => 1
  | .ptr d => uptoBulk d + 1
  | .slice elems spare => uptoBulkAll elems + uptoBulkAll spare + 1
  | .agg parts => uptoBulkAll parts + 1
  | .iface _ d => uptoBulk d + 1
  | .map entries => uptoBulkEntries entries + 1
  | .held _ => 1
def uptoBulkAll {H : Type} : List (DataW H) → Nat
  | [] => 0
  | d :: r => uptoBulk d + uptoBulkAll r
def uptoBulkEntries {H : Type} : List (Lit × DataW H) → Nat
  | [] => 0
  | x :: r => uptoBulkEntry x + uptoBulkEntries r
def uptoBulkEntry {H : Type} : Lit × DataW H → Nat
  | (.string bytes, d) => bytes.length + uptoBulk d + 1
  | (_, d) => uptoBulk d + 1
 end
def uptoSmall : (H : Type) → List (DataW H) → Bool := fun _ ds => decide (uptoBulkAll ds ≤ 1048576)
def OpenSpec.upto (s : _root_.Go.ChangeSpec) : _root_.Go.OpenSpec := { _root_.Go.OpenSpec.ofChange s with cond := some uptoSmall }

/-- 'floodgatelaw.Codes', WHERE WHAT IT READS IS OF BULK AT MOST 1048576: true; the input reads as it did. -/
def codesUptoRow : OpenClaim := { program := "ytbcjmakpempkiaagreatdoor", sum := "5868f5788daa62e487ad23ff283a99e56c55c9302d7840e183ff808ef7d9d73c", func := "floodgate/floodgatelaw.Codes", spec := "codes", inPlace := ["internal/abi.NoEscape"], unfollowed := true, recurses := true, named := ["floodgate/floodgate.helperOrder", "floodgate/floodgateref.order", "internal/strconv.uint64pow10", "math/bits.deBruijn32tab", "math/bits.deBruijn64tab"], apart := false, laid := [("floodgate/floodgateref.order", laid_floodgate_floodgateref_order), ("math/bits.deBruijn32tab", laid_math_bits_deBruijn32tab), ("math/bits.deBruijn64tab", laid_math_bits_deBruijn64tab), ("internal/strconv.uint64pow10", laid_internal_strconv_uint64pow10), ("floodgate/floodgate.helperOrder", laid_floodgate_floodgate_helperOrder)], narrowed := true }
def CodesUptoSaid : Prop := codesUptoRow.holds Tryz.pinned (OpenSpec.upto codesSpec)

/-- 'floodgatelaw.Blocks', WHERE WHAT IT READS IS OF BULK AT MOST 1048576: true; the input reads as it did. -/
def blocksUptoRow : OpenClaim := { program := "ytbcjmakpempkiaagreatdoor", sum := "5868f5788daa62e487ad23ff283a99e56c55c9302d7840e183ff808ef7d9d73c", func := "floodgate/floodgatelaw.Blocks", spec := "blocks", inPlace := ["internal/abi.NoEscape"], unfollowed := true, recurses := true, named := ["floodgate/floodgate.helperOrder", "floodgate/floodgateref.order", "internal/strconv.uint64pow10", "math/bits.deBruijn32tab", "math/bits.deBruijn64tab"], apart := false, laid := [("floodgate/floodgateref.order", laid_floodgate_floodgateref_order), ("math/bits.deBruijn32tab", laid_math_bits_deBruijn32tab), ("math/bits.deBruijn64tab", laid_math_bits_deBruijn64tab), ("internal/strconv.uint64pow10", laid_internal_strconv_uint64pow10), ("floodgate/floodgate.helperOrder", laid_floodgate_floodgate_helperOrder)], narrowed := true }
def BlocksUptoSaid : Prop := blocksUptoRow.holds Tryz.pinned (OpenSpec.upto blocksSpec)

/-- 'floodgatekeep.Packed', WHERE WHAT IT READS IS OF BULK AT MOST 1048576: true; the input reads as it did. -/
def packedUptoRow : OpenClaim := { program := "ytbcjmakpempkiaagreatdoor", sum := "5868f5788daa62e487ad23ff283a99e56c55c9302d7840e183ff808ef7d9d73c", func := "floodgate/floodgatekeep.Packed", spec := "packed", inPlace := ["internal/abi.NoEscape"], unfollowed := true, recurses := true, named := ["floodgate/floodgate.helperOrder"], apart := false, laid := [("floodgate/floodgate.helperOrder", laid_floodgate_floodgate_helperOrder)], narrowed := true }
def PackedUptoSaid : Prop := packedUptoRow.holds Tryz.pinned (OpenSpec.upto packedSpec)

/-- 'floodgatelaw.Means', WHERE WHAT IT READS IS OF BULK AT MOST 1048576: true; the input reads as it did. -/
def meansUptoRow : OpenClaim := { program := "ytbcjmakpempkiaagreatdoor", sum := "5868f5788daa62e487ad23ff283a99e56c55c9302d7840e183ff808ef7d9d73c", func := "floodgate/floodgatelaw.Means", spec := "means", inPlace := ["internal/abi.NoEscape"], unfollowed := true, recurses := true, named := ["floodgate/floodgate.helperOrder", "floodgate/floodgateref.order", "internal/strconv.uint64pow10", "math/bits.deBruijn32tab", "math/bits.deBruijn64tab"], apart := false, laid := [("floodgate/floodgateref.order", laid_floodgate_floodgateref_order), ("math/bits.deBruijn32tab", laid_math_bits_deBruijn32tab), ("math/bits.deBruijn64tab", laid_math_bits_deBruijn64tab), ("internal/strconv.uint64pow10", laid_internal_strconv_uint64pow10), ("floodgate/floodgate.helperOrder", laid_floodgate_floodgate_helperOrder)], narrowed := true }
def MeansUptoSaid : Prop := meansUptoRow.holds Tryz.pinned (OpenSpec.upto meansSpec)

/-- 'floodgatekeep.Framed', WHERE WHAT IT READS IS OF BULK AT MOST 1048576: true; the input reads as it did. -/
def framedUptoRow : OpenClaim := { program := "ytbcjmakpempkiaagreatdoor", sum := "5868f5788daa62e487ad23ff283a99e56c55c9302d7840e183ff808ef7d9d73c", func := "floodgate/floodgatekeep.Framed", spec := "framed", inPlace := ["internal/abi.NoEscape"], unfollowed := true, recurses := true, named := ["floodgate/floodgate.helperOrder"], apart := false, laid := [("floodgate/floodgate.helperOrder", laid_floodgate_floodgate_helperOrder)], narrowed := true }
def FramedUptoSaid : Prop := framedUptoRow.holds Tryz.pinned (OpenSpec.upto framedSpec)

/-- 'floodgatelaw.Gates', WHERE WHAT IT READS IS OF BULK AT MOST 1048576: true; the input reads as it did. -/
def gatesUptoRow : OpenClaim := { program := "ytbcjmakpempkiaagreatdoor", sum := "5868f5788daa62e487ad23ff283a99e56c55c9302d7840e183ff808ef7d9d73c", func := "floodgate/floodgatelaw.Gates", spec := "gates", inPlace := ["internal/abi.NoEscape"], unfollowed := true, recurses := true, named := ["floodgate/floodgate.helperOrder", "floodgate/floodgateref.order", "internal/strconv.uint64pow10", "math/bits.deBruijn32tab", "math/bits.deBruijn64tab"], apart := false, laid := [("floodgate/floodgateref.order", laid_floodgate_floodgateref_order), ("math/bits.deBruijn32tab", laid_math_bits_deBruijn32tab), ("math/bits.deBruijn64tab", laid_math_bits_deBruijn64tab), ("internal/strconv.uint64pow10", laid_internal_strconv_uint64pow10), ("floodgate/floodgate.helperOrder", laid_floodgate_floodgate_helperOrder)], narrowed := true }
def GatesUptoSaid : Prop := gatesUptoRow.holds Tryz.pinned (OpenSpec.upto gatesSpec)

/-- 'floodgatekeep.Pieces', WHERE WHAT IT READS IS OF BULK AT MOST 1048576: true; the input reads as it did. -/
def piecesUptoRow : OpenClaim := { program := "ytbcjmakpempkiaagreatdoor", sum := "5868f5788daa62e487ad23ff283a99e56c55c9302d7840e183ff808ef7d9d73c", func := "floodgate/floodgatekeep.Pieces", spec := "pieces", inPlace := ["internal/abi.NoEscape"], unfollowed := true, recurses := true, named := ["floodgate/floodgate.helperOrder"], apart := false, laid := [("floodgate/floodgate.helperOrder", laid_floodgate_floodgate_helperOrder)], narrowed := true }
def PiecesUptoSaid : Prop := piecesUptoRow.holds Tryz.pinned (OpenSpec.upto piecesSpec)

/-- 'floodgatekeep.Bounds', WHERE WHAT IT READS IS OF BULK AT MOST 1048576: true; the input reads as it did. -/
def boundsUptoRow : OpenClaim := { program := "ytbcjmakpempkiaagreatdoor", sum := "5868f5788daa62e487ad23ff283a99e56c55c9302d7840e183ff808ef7d9d73c", func := "floodgate/floodgatekeep.Bounds", spec := "bounds", unfollowed := true, recurses := true, named := ["floodgate/floodgate.helperOrder"], apart := false, laid := [("floodgate/floodgate.helperOrder", laid_floodgate_floodgate_helperOrder)], narrowed := true }
def BoundsUptoSaid : Prop := boundsUptoRow.holds Tryz.pinned (OpenSpec.upto boundsSpec)

/-- 'floodgatelaw.All', WHERE WHAT IT READS IS OF BULK AT MOST 1048576: true; the input reads as it did. -/
def allUptoRow : OpenClaim := { program := "ytbcjmakpempkiaagreatdoor", sum := "5868f5788daa62e487ad23ff283a99e56c55c9302d7840e183ff808ef7d9d73c", func := "floodgate/floodgatelaw.All", spec := "all", inPlace := ["internal/abi.NoEscape"], unfollowed := true, recurses := true, named := ["floodgate/floodgate.helperOrder", "floodgate/floodgateref.order", "internal/strconv.uint64pow10", "math/bits.deBruijn32tab", "math/bits.deBruijn64tab"], apart := false, laid := [("floodgate/floodgateref.order", laid_floodgate_floodgateref_order), ("math/bits.deBruijn32tab", laid_math_bits_deBruijn32tab), ("math/bits.deBruijn64tab", laid_math_bits_deBruijn64tab), ("internal/strconv.uint64pow10", laid_internal_strconv_uint64pow10), ("floodgate/floodgate.helperOrder", laid_floodgate_floodgate_helperOrder)], narrowed := true }
def AllUptoSaid : Prop := allUptoRow.holds Tryz.pinned (OpenSpec.upto allSpec)

end Rows
end Go.Proofs.YtbcjmakpempkiaaGreatDoor
