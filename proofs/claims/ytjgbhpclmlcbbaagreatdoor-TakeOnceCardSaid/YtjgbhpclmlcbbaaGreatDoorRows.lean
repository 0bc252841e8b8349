/-
  NARROWER THAN 'FOR EVERY INPUT', by the rows' own cells (each row's printed sentence says how): ListEnds: laid · WakeParks: laid · SendOnce: laid · SendFirst: laid · TakeOnce: laid · TakeMoves: laid · TakeFirst: laid · ShutNone: laid · ShutHolds: laid.
  DERIVED. THE GIVEN ROWS OF THIS SEAT. 9 by the template 'for every input the law returns true; each argument reads behind the call as it read before'; 0 by the template 'total and deterministic' (their statements: YtjgbhpclmlcbbaaGreatDoorTotals.lean).
  GIVEN WITH THE SEED: the statements are not yours to turn. If you find one false, say at which input.
  Laid BY PROGRAM, IN A SANDBOX (cutbox-rows.mjs): the forced cells as the released guide's own fill.sh prints them over the translation 09e490321ecf7b18… (all of the seat's roots in one cut). By AI agents, Wed Nov 11 2026. No macro, syntax, notation, axiom, sorry.
-/
import Derived.Test.YtjgbhpclmlcbbaaGreatDoorChecked
import GoSem.Claim
import GoSem.ClaimJoined
import GoSem.ClaimMapViews
import Derived.JoinedTies
import Derived.KernelRfl
namespace Go.Proofs.YtjgbhpclmlcbbaaGreatDoor
/- THE CELL 'sum', in the pinned program and in every row, IS THE sha256 OF THE DUMP (.gsa) THAT YtjgbhpclmlcbbaaGreatDoorProg.lean LOADS. Nothing in Lean hashes anything: it is a label: what it is worth is what the hold of that sum in a sandbox is worth. -/
noncomputable def Tryz.pinned : Pinned := { name := "ytjgbhpclmlcbbaagreatdoor", sum := "09e490321ecf7b18c2ad27dcae33fc8fdd9c720a400b769c6e3c8e59308f42d1", checked := Tryz.checked }
namespace Rows
def none {H : Type} : Left H := { results := [], args := [] }

/- WHAT THE LISTED PACKAGE-LEVEL VARIABLES READ AS WHEN THE CALL BEGINS. Each datum BY PROGRAM (the guide's laid-datum.mjs) off the statement by which the dump's own 'gosem.cut.vars' lays the variable. In a bare row this is a premise. The card (YtjgbhpclmlcbbaaGreatDoorCards.lean) ties it to the program's text. -/
def laid_math_bits_deBruijn32tab {H : Type} : DataW H := .agg [.lit (.int .u8 0), .lit (.int .u8 1), .lit (.int .u8 28), .lit (.int .u8 2), .lit (.int .u8 29), .lit (.int .u8 14), .lit (.int .u8 24), .lit (.int .u8 3), .lit (.int .u8 30), .lit (.int .u8 22), .lit (.int .u8 20), .lit (.int .u8 15), .lit (.int .u8 25), .lit (.int .u8 17), .lit (.int .u8 4), .lit (.int .u8 8), .lit (.int .u8 31), .lit (.int .u8 27), .lit (.int .u8 13), .lit (.int .u8 23), .lit (.int .u8 21), .lit (.int .u8 19), .lit (.int .u8 16), .lit (.int .u8 7), .lit (.int .u8 26), .lit (.int .u8 12), .lit (.int .u8 18), .lit (.int .u8 6), .lit (.int .u8 11), .lit (.int .u8 5), .lit (.int .u8 10), .lit (.int .u8 9)]
def laid_math_bits_deBruijn64tab {H : Type} : DataW H := .agg [.lit (.int .u8 0), .lit (.int .u8 1), .lit (.int .u8 56), .lit (.int .u8 2), .lit (.int .u8 57), .lit (.int .u8 49), .lit (.int .u8 28), .lit (.int .u8 3), .lit (.int .u8 61), .lit (.int .u8 58), .lit (.int .u8 42), .lit (.int .u8 50), .lit (.int .u8 38), .lit (.int .u8 29), .lit (.int .u8 17), .lit (.int .u8 4), .lit (.int .u8 62), .lit (.int .u8 47), .lit (.int .u8 59), .lit (.int .u8 36), .lit (.int .u8 45), .lit (.int .u8 43), .lit (.int .u8 51), .lit (.int .u8 22), .lit (.int .u8 53), .lit (.int .u8 39), .lit (.int .u8 33), .lit (.int .u8 30), .lit (.int .u8 24), .lit (.int .u8 18), .lit (.int .u8 12), .lit (.int .u8 5), .lit (.int .u8 63), .lit (.int .u8 55), .lit (.int .u8 48), .lit (.int .u8 27), .lit (.int .u8 60), .lit (.int .u8 41), .lit (.int .u8 37), .lit (.int .u8 16), .lit (.int .u8 46), .lit (.int .u8 35), .lit (.int .u8 44), .lit (.int .u8 21), .lit (.int .u8 52), .lit (.int .u8 32), .lit (.int .u8 23), .lit (.int .u8 11), .lit (.int .u8 54), .lit (.int .u8 26), .lit (.int .u8 40), .lit (.int .u8 15), .lit (.int .u8 34), .lit (.int .u8 20), .lit (.int .u8 31), .lit (.int .u8 10), .lit (.int .u8 25), .lit (.int .u8 14), .lit (.int .u8 19), .lit (.int .u8 9), .lit (.int .u8 13), .lit (.int .u8 8), .lit (.int .u8 7), .lit (.int .u8 6)]
def laid_internal_strconv_uint64pow10 {H : Type} : DataW H := .agg [.lit (.int .u64 1), .lit (.int .u64 10), .lit (.int .u64 100), .lit (.int .u64 1000), .lit (.int .u64 10000), .lit (.int .u64 100000), .lit (.int .u64 1000000), .lit (.int .u64 10000000), .lit (.int .u64 100000000), .lit (.int .u64 1000000000), .lit (.int .u64 10000000000), .lit (.int .u64 100000000000), .lit (.int .u64 1000000000000), .lit (.int .u64 10000000000000), .lit (.int .u64 100000000000000), .lit (.int .u64 1000000000000000), .lit (.int .u64 10000000000000000), .lit (.int .u64 100000000000000000), .lit (.int .u64 1000000000000000000), .lit (.int .u64 10000000000000000000)]

/-- 'dormouselaw13.ListEnds': WHATEVER THE INPUT: true; the input reads as it did. -/
def listEndsSpec : ChangeSpec := { name := "listEnds", fn := fun _ => fun
  | [d1, d2] => { results := [.lit (.bool true)], args := [d1, d2] }
  | _ => none }
def listEndsRow : OpenClaim := { program := "ytjgbhpclmlcbbaagreatdoor", sum := "09e490321ecf7b18c2ad27dcae33fc8fdd9c720a400b769c6e3c8e59308f42d1", func := "dormouse/dormouselaw13.ListEnds", spec := "listEnds", inPlace := ["internal/abi.NoEscape", "internal/bytealg.MakeNoZero"], unfollowed := true, recurses := true, named := ["internal/strconv.uint64pow10", "math/bits.deBruijn32tab", "math/bits.deBruijn64tab"], apart := false, laid := [("math/bits.deBruijn32tab", laid_math_bits_deBruijn32tab), ("math/bits.deBruijn64tab", laid_math_bits_deBruijn64tab), ("internal/strconv.uint64pow10", laid_internal_strconv_uint64pow10)] }
def ListEndsSaid : Prop := listEndsRow.holds Tryz.pinned (OpenSpec.ofChange listEndsSpec)

/-- ITS FALSE NEIGHBOUR: 'it returns false'. Refute it at one input. -/
def listEndsWrong : ChangeSpec := { name := "listEnds", fn := fun _ => fun
  | [d1, d2] => { results := [.lit (.bool false)], args := [d1, d2] }
  | _ => none }
def ListEndsWrongFalsely : Prop := listEndsRow.holds Tryz.pinned (OpenSpec.ofChange listEndsWrong)

/-- 'dormouselaw14.WakeParks': WHATEVER THE INPUT: true; the input reads as it did. -/
def wakeParksSpec : ChangeSpec := { name := "wakeParks", fn := fun _ => fun
  | [d1, d2] => { results := [.lit (.bool true)], args := [d1, d2] }
  | _ => none }
def wakeParksRow : OpenClaim := { program := "ytjgbhpclmlcbbaagreatdoor", sum := "09e490321ecf7b18c2ad27dcae33fc8fdd9c720a400b769c6e3c8e59308f42d1", func := "dormouse/dormouselaw14.WakeParks", spec := "wakeParks", inPlace := ["internal/abi.NoEscape", "internal/bytealg.MakeNoZero"], named := ["internal/strconv.uint64pow10", "math/bits.deBruijn32tab", "math/bits.deBruijn64tab"], apart := false, laid := [("math/bits.deBruijn32tab", laid_math_bits_deBruijn32tab), ("math/bits.deBruijn64tab", laid_math_bits_deBruijn64tab), ("internal/strconv.uint64pow10", laid_internal_strconv_uint64pow10)] }
def WakeParksSaid : Prop := wakeParksRow.holds Tryz.pinned (OpenSpec.ofChange wakeParksSpec)

/-- ITS FALSE NEIGHBOUR: 'it returns false'. Refute it at one input. -/
def wakeParksWrong : ChangeSpec := { name := "wakeParks", fn := fun _ => fun
  | [d1, d2] => { results := [.lit (.bool false)], args := [d1, d2] }
  | _ => none }
def WakeParksWrongFalsely : Prop := wakeParksRow.holds Tryz.pinned (OpenSpec.ofChange wakeParksWrong)

/-- 'dormouselaw15.SendOnce': WHATEVER THE INPUT: true; the input reads as it did. -/
def sendOnceSpec : ChangeSpec := { name := "sendOnce", fn := fun _ => fun
  | [d1, d2, d3] => { results := [.lit (.bool true)], args := [d1, d2, d3] }
  | _ => none }
def sendOnceRow : OpenClaim := { program := "ytjgbhpclmlcbbaagreatdoor", sum := "09e490321ecf7b18c2ad27dcae33fc8fdd9c720a400b769c6e3c8e59308f42d1", func := "dormouse/dormouselaw15.SendOnce", spec := "sendOnce", inPlace := ["internal/abi.NoEscape", "internal/bytealg.MakeNoZero"], named := ["internal/strconv.uint64pow10", "math/bits.deBruijn32tab", "math/bits.deBruijn64tab"], apart := false, laid := [("math/bits.deBruijn32tab", laid_math_bits_deBruijn32tab), ("math/bits.deBruijn64tab", laid_math_bits_deBruijn64tab), ("internal/strconv.uint64pow10", laid_internal_strconv_uint64pow10)] }
def SendOnceSaid : Prop := sendOnceRow.holds Tryz.pinned (OpenSpec.ofChange sendOnceSpec)

/-- ITS FALSE NEIGHBOUR: 'it returns false'. Refute it at one input. -/
def sendOnceWrong : ChangeSpec := { name := "sendOnce", fn := fun _ => fun
  | [d1, d2, d3] => { results := [.lit (.bool false)], args := [d1, d2, d3] }
  | _ => none }
def SendOnceWrongFalsely : Prop := sendOnceRow.holds Tryz.pinned (OpenSpec.ofChange sendOnceWrong)

/-- 'dormouselaw15.SendFirst': WHATEVER THE INPUT: true; the input reads as it did. -/
def sendFirstSpec : ChangeSpec := { name := "sendFirst", fn := fun _ => fun
  | [d1, d2, d3] => { results := [.lit (.bool true)], args := [d1, d2, d3] }
  | _ => none }
def sendFirstRow : OpenClaim := { program := "ytjgbhpclmlcbbaagreatdoor", sum := "09e490321ecf7b18c2ad27dcae33fc8fdd9c720a400b769c6e3c8e59308f42d1", func := "dormouse/dormouselaw15.SendFirst", spec := "sendFirst", inPlace := ["internal/abi.NoEscape", "internal/bytealg.MakeNoZero"], named := ["internal/strconv.uint64pow10", "math/bits.deBruijn32tab", "math/bits.deBruijn64tab"], apart := false, laid := [("math/bits.deBruijn32tab", laid_math_bits_deBruijn32tab), ("math/bits.deBruijn64tab", laid_math_bits_deBruijn64tab), ("internal/strconv.uint64pow10", laid_internal_strconv_uint64pow10)] }
def SendFirstSaid : Prop := sendFirstRow.holds Tryz.pinned (OpenSpec.ofChange sendFirstSpec)

/-- ITS FALSE NEIGHBOUR: 'it returns false'. Refute it at one input. -/
def sendFirstWrong : ChangeSpec := { name := "sendFirst", fn := fun _ => fun
  | [d1, d2, d3] => { results := [.lit (.bool false)], args := [d1, d2, d3] }
  | _ => none }
def SendFirstWrongFalsely : Prop := sendFirstRow.holds Tryz.pinned (OpenSpec.ofChange sendFirstWrong)

/-- 'dormouselaw16.TakeOnce': WHATEVER THE INPUT: true; the input reads as it did. -/
def takeOnceSpec : ChangeSpec := { name := "takeOnce", fn := fun _ => fun
  | [d1, d2] => { results := [.lit (.bool true)], args := [d1, d2] }
  | _ => none }
def takeOnceRow : OpenClaim := { program := "ytjgbhpclmlcbbaagreatdoor", sum := "09e490321ecf7b18c2ad27dcae33fc8fdd9c720a400b769c6e3c8e59308f42d1", func := "dormouse/dormouselaw16.TakeOnce", spec := "takeOnce", inPlace := ["internal/abi.NoEscape", "internal/bytealg.MakeNoZero"], named := ["internal/strconv.uint64pow10", "math/bits.deBruijn32tab", "math/bits.deBruijn64tab"], apart := false, laid := [("math/bits.deBruijn32tab", laid_math_bits_deBruijn32tab), ("math/bits.deBruijn64tab", laid_math_bits_deBruijn64tab), ("internal/strconv.uint64pow10", laid_internal_strconv_uint64pow10)] }
def TakeOnceSaid : Prop := takeOnceRow.holds Tryz.pinned (OpenSpec.ofChange takeOnceSpec)

/-- ITS FALSE NEIGHBOUR: 'it returns false'. Refute it at one input. -/
def takeOnceWrong : ChangeSpec := { name := "takeOnce", fn := fun _ => fun
  | [d1, d2] => { results := [.lit (.bool false)], args := [d1, d2] }
  | _ => none }
def TakeOnceWrongFalsely : Prop := takeOnceRow.holds Tryz.pinned (OpenSpec.ofChange takeOnceWrong)

/-- 'dormouselaw16.TakeMoves': WHATEVER THE INPUT: true; the input reads as it did. -/
def takeMovesSpec : ChangeSpec := { name := "takeMoves", fn := fun _ => fun
  | [d1, d2] => { results := [.lit (.bool true)], args := [d1, d2] }
  | _ => none }
def takeMovesRow : OpenClaim := { program := "ytjgbhpclmlcbbaagreatdoor", sum := "09e490321ecf7b18c2ad27dcae33fc8fdd9c720a400b769c6e3c8e59308f42d1", func := "dormouse/dormouselaw16.TakeMoves", spec := "takeMoves", inPlace := ["internal/abi.NoEscape", "internal/bytealg.MakeNoZero"], named := ["internal/strconv.uint64pow10", "math/bits.deBruijn32tab", "math/bits.deBruijn64tab"], apart := false, laid := [("math/bits.deBruijn32tab", laid_math_bits_deBruijn32tab), ("math/bits.deBruijn64tab", laid_math_bits_deBruijn64tab), ("internal/strconv.uint64pow10", laid_internal_strconv_uint64pow10)] }
def TakeMovesSaid : Prop := takeMovesRow.holds Tryz.pinned (OpenSpec.ofChange takeMovesSpec)

/-- ITS FALSE NEIGHBOUR: 'it returns false'. Refute it at one input. -/
def takeMovesWrong : ChangeSpec := { name := "takeMoves", fn := fun _ => fun
  | [d1, d2] => { results := [.lit (.bool false)], args := [d1, d2] }
  | _ => none }
def TakeMovesWrongFalsely : Prop := takeMovesRow.holds Tryz.pinned (OpenSpec.ofChange takeMovesWrong)

/-- 'dormouselaw16.TakeFirst': WHATEVER THE INPUT: true; the input reads as it did. -/
def takeFirstSpec : ChangeSpec := { name := "takeFirst", fn := fun _ => fun
  | [d1, d2, d3] => { results := [.lit (.bool true)], args := [d1, d2, d3] }
  | _ => none }
def takeFirstRow : OpenClaim := { program := "ytjgbhpclmlcbbaagreatdoor", sum := "09e490321ecf7b18c2ad27dcae33fc8fdd9c720a400b769c6e3c8e59308f42d1", func := "dormouse/dormouselaw16.TakeFirst", spec := "takeFirst", inPlace := ["internal/abi.NoEscape", "internal/bytealg.MakeNoZero"], named := ["internal/strconv.uint64pow10", "math/bits.deBruijn32tab", "math/bits.deBruijn64tab"], apart := false, laid := [("math/bits.deBruijn32tab", laid_math_bits_deBruijn32tab), ("math/bits.deBruijn64tab", laid_math_bits_deBruijn64tab), ("internal/strconv.uint64pow10", laid_internal_strconv_uint64pow10)] }
def TakeFirstSaid : Prop := takeFirstRow.holds Tryz.pinned (OpenSpec.ofChange takeFirstSpec)

/-- ITS FALSE NEIGHBOUR: 'it returns false'. Refute it at one input. -/
def takeFirstWrong : ChangeSpec := { name := "takeFirst", fn := fun _ => fun
  | [d1, d2, d3] => { results := [.lit (.bool false)], args := [d1, d2, d3] }
  | _ => none }
def TakeFirstWrongFalsely : Prop := takeFirstRow.holds Tryz.pinned (OpenSpec.ofChange takeFirstWrong)

/-- 'dormouselaw17.ShutNone': WHATEVER THE INPUT: true; the input reads as it did. -/
def shutNoneSpec : ChangeSpec := { name := "shutNone", fn := fun _ => fun
  | [d] => { results := [.lit (.bool true)], args := [d] }
  | _ => none }
def shutNoneRow : OpenClaim := { program := "ytjgbhpclmlcbbaagreatdoor", sum := "09e490321ecf7b18c2ad27dcae33fc8fdd9c720a400b769c6e3c8e59308f42d1", func := "dormouse/dormouselaw17.ShutNone", spec := "shutNone", inPlace := ["internal/abi.NoEscape", "internal/bytealg.MakeNoZero"], named := ["internal/strconv.uint64pow10", "math/bits.deBruijn32tab", "math/bits.deBruijn64tab"], apart := false, laid := [("math/bits.deBruijn32tab", laid_math_bits_deBruijn32tab), ("math/bits.deBruijn64tab", laid_math_bits_deBruijn64tab), ("internal/strconv.uint64pow10", laid_internal_strconv_uint64pow10)] }
def ShutNoneSaid : Prop := shutNoneRow.holds Tryz.pinned (OpenSpec.ofChange shutNoneSpec)

/-- ITS FALSE NEIGHBOUR: 'it returns false'. Refute it at one input. -/
def shutNoneWrong : ChangeSpec := { name := "shutNone", fn := fun _ => fun
  | [d] => { results := [.lit (.bool false)], args := [d] }
  | _ => none }
def ShutNoneWrongFalsely : Prop := shutNoneRow.holds Tryz.pinned (OpenSpec.ofChange shutNoneWrong)

/-- 'dormouselaw17.ShutHolds': WHATEVER THE INPUT: true; the input reads as it did. -/
def shutHoldsSpec : ChangeSpec := { name := "shutHolds", fn := fun _ => fun
  | [d1, d2] => { results := [.lit (.bool true)], args := [d1, d2] }
  | _ => none }
def shutHoldsRow : OpenClaim := { program := "ytjgbhpclmlcbbaagreatdoor", sum := "09e490321ecf7b18c2ad27dcae33fc8fdd9c720a400b769c6e3c8e59308f42d1", func := "dormouse/dormouselaw17.ShutHolds", spec := "shutHolds", inPlace := ["internal/abi.NoEscape", "internal/bytealg.MakeNoZero"], named := ["internal/strconv.uint64pow10", "math/bits.deBruijn32tab", "math/bits.deBruijn64tab"], apart := false, laid := [("math/bits.deBruijn32tab", laid_math_bits_deBruijn32tab), ("math/bits.deBruijn64tab", laid_math_bits_deBruijn64tab), ("internal/strconv.uint64pow10", laid_internal_strconv_uint64pow10)] }
def ShutHoldsSaid : Prop := shutHoldsRow.holds Tryz.pinned (OpenSpec.ofChange shutHoldsSpec)

/-- ITS FALSE NEIGHBOUR: 'it returns false'. Refute it at one input. -/
def shutHoldsWrong : ChangeSpec := { name := "shutHolds", fn := fun _ => fun
  | [d1, d2] => { results := [.lit (.bool false)], args := [d1, d2] }
  | _ => none }
def ShutHoldsWrongFalsely : Prop := shutHoldsRow.holds Tryz.pinned (OpenSpec.ofChange shutHoldsWrong)

/- THE SECOND FORM. 'bulk': how many values and letters a reading holds, each counted each time it is reached (what is shared counts as often as it is met; a slice's spare places count too). A statement '..UptoSaid' is the law's where the arguments, and the package variables that the reading takes, are together of bulk at most 1048576: NARROWER than '..Said'. Prove '..Said' where nothing that the law and all that it calls make is longer than what came in: it says more and counts as full. Else prove '..UptoSaid'. A law counts once. -/
mutual
def uptoBulk {H : Type} : DataW H → Nat
  | .lit (.string bytes) => bytes.length + 1
  | .lit _ => 1
  | .nil => 1
  | .ptr d => uptoBulk d + 1
  | .slice elems spare => uptoBulkAll elems + uptoBulkAll spare + 1
  | .agg parts => uptoBulkAll parts + 1
  | .iface _ d => uptoBulk d + 1
  | .map entries => uptoBulkEntries entries + 1
  | .held _ => 1
def uptoBulkAll {H : Type} : List (DataW H) → Nat
  | [] => 0
  | d :: r => uptoBulk d + uptoBulkAll r
def uptoBulkEntries {H : Type} : List (Lit × DataW H) → Nat
  | [] => 0
  | x :: r => uptoBulkEntry x + uptoBulkEntries r
def uptoBulkEntry {H : Type} : Lit × DataW H → Nat
  | (.string bytes, d) => bytes.length + uptoBulk d + 1
  | (_, d) => uptoBulk d + 1
 end
def uptoSmall : (H : Type) → List (DataW H) → Bool := fun _ ds => decide (uptoBulkAll ds ≤ 1048576)
def OpenSpec.upto (s : _root_.Go.ChangeSpec) : _root_.Go.OpenSpec := { _root_.Go.OpenSpec.ofChange s with cond := some uptoSmall }

/-- 'dormouselaw13.ListEnds', WHERE WHAT IT READS IS OF BULK AT MOST 1048576: true; the input reads as it did. -/
def listEndsUptoRow : OpenClaim := { program := "ytjgbhpclmlcbbaagreatdoor", sum := "09e490321ecf7b18c2ad27dcae33fc8fdd9c720a400b769c6e3c8e59308f42d1", func := "dormouse/dormouselaw13.ListEnds", spec := "listEnds", inPlace := ["internal/abi.NoEscape", "internal/bytealg.MakeNoZero"], unfollowed := true, recurses := true, named := ["internal/strconv.uint64pow10", "math/bits.deBruijn32tab", "math/bits.deBruijn64tab"], apart := false, laid := [("math/bits.deBruijn32tab", laid_math_bits_deBruijn32tab), ("math/bits.deBruijn64tab", laid_math_bits_deBruijn64tab), ("internal/strconv.uint64pow10", laid_internal_strconv_uint64pow10)], narrowed := true }
def ListEndsUptoSaid : Prop := listEndsUptoRow.holds Tryz.pinned (OpenSpec.upto listEndsSpec)

/-- 'dormouselaw14.WakeParks', WHERE WHAT IT READS IS OF BULK AT MOST 1048576: true; the input reads as it did. -/
def wakeParksUptoRow : OpenClaim := { program := "ytjgbhpclmlcbbaagreatdoor", sum := "09e490321ecf7b18c2ad27dcae33fc8fdd9c720a400b769c6e3c8e59308f42d1", func := "dormouse/dormouselaw14.WakeParks", spec := "wakeParks", inPlace := ["internal/abi.NoEscape", "internal/bytealg.MakeNoZero"], named := ["internal/strconv.uint64pow10", "math/bits.deBruijn32tab", "math/bits.deBruijn64tab"], apart := false, laid := [("math/bits.deBruijn32tab", laid_math_bits_deBruijn32tab), ("math/bits.deBruijn64tab", laid_math_bits_deBruijn64tab), ("internal/strconv.uint64pow10", laid_internal_strconv_uint64pow10)], narrowed := true }
def WakeParksUptoSaid : Prop := wakeParksUptoRow.holds Tryz.pinned (OpenSpec.upto wakeParksSpec)

/-- 'dormouselaw15.SendOnce', WHERE WHAT IT READS IS OF BULK AT MOST 1048576: true; the input reads as it did. -/
def sendOnceUptoRow : OpenClaim := { program := "ytjgbhpclmlcbbaagreatdoor", sum := "09e490321ecf7b18c2ad27dcae33fc8fdd9c720a400b769c6e3c8e59308f42d1", func := "dormouse/dormouselaw15.SendOnce", spec := "sendOnce", inPlace := ["internal/abi.NoEscape", "internal/bytealg.MakeNoZero"], named := ["internal/strconv.uint64pow10", "math/bits.deBruijn32tab", "math/bits.deBruijn64tab"], apart := false, laid := [("math/bits.deBruijn32tab", laid_math_bits_deBruijn32tab), ("math/bits.deBruijn64tab", laid_math_bits_deBruijn64tab), ("internal/strconv.uint64pow10", laid_internal_strconv_uint64pow10)], narrowed := true }
def SendOnceUptoSaid : Prop := sendOnceUptoRow.holds Tryz.pinned (OpenSpec.upto sendOnceSpec)

/-- 'dormouselaw15.SendFirst', WHERE WHAT IT READS IS OF BULK AT MOST 1048576: true; the input reads as it did. -/
def sendFirstUptoRow : OpenClaim := { program := "ytjgbhpclmlcbbaagreatdoor", sum := "09e490321ecf7b18c2ad27dcae33fc8fdd9c720a400b769c6e3c8e59308f42d1", func := "dormouse/dormouselaw15.SendFirst", spec := "sendFirst", inPlace := ["internal/abi.NoEscape", "internal/bytealg.MakeNoZero"], named := ["internal/strconv.uint64pow10", "math/bits.deBruijn32tab", "math/bits.deBruijn64tab"], apart := false, laid := [("math/bits.deBruijn32tab", laid_math_bits_deBruijn32tab), ("math/bits.deBruijn64tab", laid_math_bits_deBruijn64tab), ("internal/strconv.uint64pow10", laid_internal_strconv_uint64pow10)], narrowed := true }
def SendFirstUptoSaid : Prop := sendFirstUptoRow.holds Tryz.pinned (OpenSpec.upto sendFirstSpec)

/-- 'dormouselaw16.TakeOnce', WHERE WHAT IT READS IS OF BULK AT MOST 1048576: true; the input reads as it did. -/
def takeOnceUptoRow : OpenClaim := { program := "ytjgbhpclmlcbbaagreatdoor", sum := "09e490321ecf7b18c2ad27dcae33fc8fdd9c720a400b769c6e3c8e59308f42d1", func := "dormouse/dormouselaw16.TakeOnce", spec := "takeOnce", inPlace := ["internal/abi.NoEscape", "internal/bytealg.MakeNoZero"], named := ["internal/strconv.uint64pow10", "math/bits.deBruijn32tab", "math/bits.deBruijn64tab"], apart := false, laid := [("math/bits.deBruijn32tab", laid_math_bits_deBruijn32tab), ("math/bits.deBruijn64tab", laid_math_bits_deBruijn64tab), ("internal/strconv.uint64pow10", laid_internal_strconv_uint64pow10)], narrowed := true }
def TakeOnceUptoSaid : Prop := takeOnceUptoRow.holds Tryz.pinned (OpenSpec.upto takeOnceSpec)

/-- 'dormouselaw16.TakeMoves', WHERE WHAT IT READS IS OF BULK AT MOST 1048576: true; the input reads as it did. -/
def takeMovesUptoRow : OpenClaim := { program := "ytjgbhpclmlcbbaagreatdoor", sum := "09e490321ecf7b18c2ad27dcae33fc8fdd9c720a400b769c6e3c8e59308f42d1", func := "dormouse/dormouselaw16.TakeMoves", spec := "takeMoves", inPlace := ["internal/abi.NoEscape", "internal/bytealg.MakeNoZero"], named := ["internal/strconv.uint64pow10", "math/bits.deBruijn32tab", "math/bits.deBruijn64tab"], apart := false, laid := [("math/bits.deBruijn32tab", laid_math_bits_deBruijn32tab), ("math/bits.deBruijn64tab", laid_math_bits_deBruijn64tab), ("internal/strconv.uint64pow10", laid_internal_strconv_uint64pow10)], narrowed := true }
def TakeMovesUptoSaid : Prop := takeMovesUptoRow.holds Tryz.pinned (OpenSpec.upto takeMovesSpec)

/-- 'dormouselaw16.TakeFirst', WHERE WHAT IT READS IS OF BULK AT MOST 1048576: true; the input reads as it did. -/
def takeFirstUptoRow : OpenClaim := { program := "ytjgbhpclmlcbbaagreatdoor", sum := "09e490321ecf7b18c2ad27dcae33fc8fdd9c720a400b769c6e3c8e59308f42d1", func := "dormouse/dormouselaw16.TakeFirst", spec := "takeFirst", inPlace := ["internal/abi.NoEscape", "internal/bytealg.MakeNoZero"], named := ["internal/strconv.uint64pow10", "math/bits.deBruijn32tab", "math/bits.deBruijn64tab"], apart := false, laid := [("math/bits.deBruijn32tab", laid_math_bits_deBruijn32tab), ("math/bits.deBruijn64tab", laid_math_bits_deBruijn64tab), ("internal/strconv.uint64pow10", laid_internal_strconv_uint64pow10)], narrowed := true }
def TakeFirstUptoSaid : Prop := takeFirstUptoRow.holds Tryz.pinned (OpenSpec.upto takeFirstSpec)

/-- 'dormouselaw17.ShutNone', WHERE WHAT IT READS IS OF BULK AT MOST 1048576: true; the input reads as it did. -/
def shutNoneUptoRow : OpenClaim := { program := "ytjgbhpclmlcbbaagreatdoor", sum := "09e490321ecf7b18c2ad27dcae33fc8fdd9c720a400b769c6e3c8e59308f42d1", func := "dormouse/dormouselaw17.ShutNone", spec := "shutNone", inPlace := ["internal/abi.NoEscape", "internal/bytealg.MakeNoZero"], named := ["internal/strconv.uint64pow10", "math/bits.deBruijn32tab", "math/bits.deBruijn64tab"], apart := false, laid := [("math/bits.deBruijn32tab", laid_math_bits_deBruijn32tab), ("math/bits.deBruijn64tab", laid_math_bits_deBruijn64tab), ("internal/strconv.uint64pow10", laid_internal_strconv_uint64pow10)], narrowed := true }
def ShutNoneUptoSaid : Prop := shutNoneUptoRow.holds Tryz.pinned (OpenSpec.upto shutNoneSpec)

/-- 'dormouselaw17.ShutHolds', WHERE WHAT IT READS IS OF BULK AT MOST 1048576: true; the input reads as it did. -/
def shutHoldsUptoRow : OpenClaim := { program := "ytjgbhpclmlcbbaagreatdoor", sum := "09e490321ecf7b18c2ad27dcae33fc8fdd9c720a400b769c6e3c8e59308f42d1", func := "dormouse/dormouselaw17.ShutHolds", spec := "shutHolds", inPlace := ["internal/abi.NoEscape", "internal/bytealg.MakeNoZero"], named := ["internal/strconv.uint64pow10", "math/bits.deBruijn32tab", "math/bits.deBruijn64tab"], apart := false, laid := [("math/bits.deBruijn32tab", laid_math_bits_deBruijn32tab), ("math/bits.deBruijn64tab", laid_math_bits_deBruijn64tab), ("internal/strconv.uint64pow10", laid_internal_strconv_uint64pow10)], narrowed := true }
def ShutHoldsUptoSaid : Prop := shutHoldsUptoRow.holds Tryz.pinned (OpenSpec.upto shutHoldsSpec)

end Rows
end Go.Proofs.YtjgbhpclmlcbbaaGreatDoor
