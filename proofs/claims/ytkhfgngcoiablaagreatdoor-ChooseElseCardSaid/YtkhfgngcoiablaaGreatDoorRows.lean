/-
  NARROWER THAN 'FOR EVERY INPUT', by the rows' own cells (each row's printed sentence says how): WakeParks: laid · TakeFirst: laid · ShutHolds: laid · WakeRegs: laid · WakeNowhere: laid · ShutWakes: laid · ChooseElse: laid · RingTurns: laid · RingApart: laid.
  DERIVED. THE GIVEN ROWS OF THIS SEAT. 9 by the template 'for every input the law returns true; each argument reads behind the call as it read before'; 0 by the template 'total and deterministic' (their statements: YtkhfgngcoiablaaGreatDoorTotals.lean).
  GIVEN WITH THE SEED: the statements are not yours to turn. If you find one false, say at which input.
  Laid BY PROGRAM, IN A SANDBOX (cutbox-rows.mjs): the forced cells as the released guide's own fill.sh prints them over the translation 71a3c7d3822060ed… (all of the seat's roots in one cut). By AI agents, Wed Nov 11 2026. No macro, syntax, notation, axiom, sorry.
-/
import Derived.Test.YtkhfgngcoiablaaGreatDoorChecked
import GoSem.Claim
import GoSem.ClaimJoined
import GoSem.ClaimMapViews
import Derived.JoinedTies
import Derived.KernelRfl
namespace Go.Proofs.YtkhfgngcoiablaaGreatDoor
/- THE CELL 'sum', in the pinned program and in every row, IS THE sha256 OF THE DUMP (.gsa) THAT YtkhfgngcoiablaaGreatDoorProg.lean LOADS. Nothing in Lean hashes anything: it is a label: what it is worth is what the hold of that sum in a sandbox is worth. -/
noncomputable def Tryz.pinned : Pinned := { name := "ytkhfgngcoiablaagreatdoor", sum := "71a3c7d3822060edb043738150fe453e369c478fb1bb827e32d1cdcc4f278630", checked := Tryz.checked }
namespace Rows
def none {H : Type} : Left H := { results := [], args := [] }

/- WHAT THE LISTED PACKAGE-LEVEL VARIABLES READ AS WHEN THE CALL BEGINS. Each datum BY PROGRAM (the guide's laid-datum.mjs) off the statement by which the dump's own 'gosem.cut.vars' lays the variable. In a bare row this is a premise. The card (YtkhfgngcoiablaaGreatDoorCards.lean) ties it to the program's text. -/
def laid_math_bits_deBruijn32tab {H : Type} : DataW H := .agg [.lit (.int .u8 0), .lit (.int .u8 1), .lit (.int .u8 28), .lit (.int .u8 2), .lit (.int .u8 29), .lit (.int .u8 14), .lit (.int .u8 24), .lit (.int .u8 3), .lit (.int .u8 30), .lit (.int .u8 22), .lit (.int .u8 20), .lit (.int .u8 15), .lit (.int .u8 25), .lit (.int .u8 17), .lit (.int .u8 4), .lit (.int .u8 8), .lit (.int .u8 31), .lit (.int .u8 27), .lit (.int .u8 13), .lit (.int .u8 23), .lit (.int .u8 21), .lit (.int .u8 19), .lit (.int .u8 16), .lit (.int .u8 7), .lit (.int .u8 26), .lit (.int .u8 12), .lit (.int .u8 18), .lit (.int .u8 6), .lit (.int .u8 11), .lit (.int .u8 5), .lit (.int .u8 10), .lit (.int .u8 9)]
def laid_math_bits_deBruijn64tab {H : Type} : DataW H := .agg [.lit (.int .u8 0), .lit (.int .u8 1), .lit (.int .u8 56), .lit (.int .u8 2), .lit (.int .u8 57), .lit (.int .u8 49), .lit (.int .u8 28), .lit (.int .u8 3), .lit (.int .u8 61), .lit (.int .u8 58), .lit (.int .u8 42), .lit (.int .u8 50), .lit (.int .u8 38), .lit (.int .u8 29), .lit (.int .u8 17), .lit (.int .u8 4), .lit (.int .u8 62), .lit (.int .u8 47), .lit (.int .u8 59), .lit (.int .u8 36), .lit (.int .u8 45), .lit (.int .u8 43), .lit (.int .u8 51), .lit (.int .u8 22), .lit (.int .u8 53), .lit (.int .u8 39), .lit (.int .u8 33), .lit (.int .u8 30), .lit (.int .u8 24), .lit (.int .u8 18), .lit (.int .u8 12), .lit (.int .u8 5), .lit (.int .u8 63), .lit (.int .u8 55), .lit (.int .u8 48), .lit (.int .u8 27), .lit (.int .u8 60), .lit (.int .u8 41), .lit (.int .u8 37), .lit (.int .u8 16), .lit (.int .u8 46), .lit (.int .u8 35), .lit (.int .u8 44), .lit (.int .u8 21), .lit (.int .u8 52), .lit (.int .u8 32), .lit (.int .u8 23), .lit (.int .u8 11), .lit (.int .u8 54), .lit (.int .u8 26), .lit (.int .u8 40), .lit (.int .u8 15), .lit (.int .u8 34), .lit (.int .u8 20), .lit (.int .u8 31), .lit (.int .u8 10), .lit (.int .u8 25), .lit (.int .u8 14), .lit (.int .u8 19), .lit (.int .u8 9), .lit (.int .u8 13), .lit (.int .u8 8), .lit (.int .u8 7), .lit (.int .u8 6)]
def laid_internal_strconv_uint64pow10 {H : Type} : DataW H := .agg [.lit (.int .u64 1), .lit (.int .u64 10), .lit (.int .u64 100), .lit (.int .u64 1000), .lit (.int .u64 10000), .lit (.int .u64 100000), .lit (.int .u64 1000000), .lit (.int .u64 10000000), .lit (.int .u64 100000000), .lit (.int .u64 1000000000), .lit (.int .u64 10000000000), .lit (.int .u64 100000000000), .lit (.int .u64 1000000000000), .lit (.int .u64 10000000000000), .lit (.int .u64 100000000000000), .lit (.int .u64 1000000000000000), .lit (.int .u64 10000000000000000), .lit (.int .u64 100000000000000000), .lit (.int .u64 1000000000000000000), .lit (.int .u64 10000000000000000000)]

/-- 'dormouselaw14.WakeParks': WHATEVER THE INPUT: true; the input reads as it did. -/
def wakeParksSpec : ChangeSpec := { name := "wakeParks", fn := fun _ => fun
  | [d1, d2] => { results := [.lit (.bool true)], args := [d1, d2] }
  | _ => none }
def wakeParksRow : OpenClaim := { program := "ytkhfgngcoiablaagreatdoor", sum := "71a3c7d3822060edb043738150fe453e369c478fb1bb827e32d1cdcc4f278630", func := "dormouse/dormouselaw14.WakeParks", spec := "wakeParks", inPlace := ["internal/abi.NoEscape", "internal/bytealg.MakeNoZero"], named := ["internal/strconv.uint64pow10", "math/bits.deBruijn32tab", "math/bits.deBruijn64tab"], apart := false, laid := [("math/bits.deBruijn32tab", laid_math_bits_deBruijn32tab), ("math/bits.deBruijn64tab", laid_math_bits_deBruijn64tab), ("internal/strconv.uint64pow10", laid_internal_strconv_uint64pow10)] }
def WakeParksSaid : Prop := wakeParksRow.holds Tryz.pinned (OpenSpec.ofChange wakeParksSpec)

/-- ITS FALSE NEIGHBOUR: 'it returns false'. Refute it at one input. -/
def wakeParksWrong : ChangeSpec := { name := "wakeParks", fn := fun _ => fun
  | [d1, d2] => { results := [.lit (.bool false)], args := [d1, d2] }
  | _ => none }
def WakeParksWrongFalsely : Prop := wakeParksRow.holds Tryz.pinned (OpenSpec.ofChange wakeParksWrong)

/-- 'dormouselaw16.TakeFirst': WHATEVER THE INPUT: true; the input reads as it did. -/
def takeFirstSpec : ChangeSpec := { name := "takeFirst", fn := fun _ => fun
  | [d1, d2, d3] => { results := [.lit (.bool true)], args := [d1, d2, d3] }
  | _ => none }
def takeFirstRow : OpenClaim := { program := "ytkhfgngcoiablaagreatdoor", sum := "71a3c7d3822060edb043738150fe453e369c478fb1bb827e32d1cdcc4f278630", func := "dormouse/dormouselaw16.TakeFirst", spec := "takeFirst", inPlace := ["internal/abi.NoEscape", "internal/bytealg.MakeNoZero"], named := ["internal/strconv.uint64pow10", "math/bits.deBruijn32tab", "math/bits.deBruijn64tab"], apart := false, laid := [("math/bits.deBruijn32tab", laid_math_bits_deBruijn32tab), ("math/bits.deBruijn64tab", laid_math_bits_deBruijn64tab), ("internal/strconv.uint64pow10", laid_internal_strconv_uint64pow10)] }
def TakeFirstSaid : Prop := takeFirstRow.holds Tryz.pinned (OpenSpec.ofChange takeFirstSpec)

/-- ITS FALSE NEIGHBOUR: 'it returns false'. Refute it at one input. -/
def takeFirstWrong : ChangeSpec := { name := "takeFirst", fn := fun _ => fun
  | [d1, d2, d3] => { results := [.lit (.bool false)], args := [d1, d2, d3] }
  | _ => none }
def TakeFirstWrongFalsely : Prop := takeFirstRow.holds Tryz.pinned (OpenSpec.ofChange takeFirstWrong)

/-- 'dormouselaw17.ShutHolds': WHATEVER THE INPUT: true; the input reads as it did. -/
def shutHoldsSpec : ChangeSpec := { name := "shutHolds", fn := fun _ => fun
  | [d1, d2] => { results := [.lit (.bool true)], args := [d1, d2] }
  | _ => none }
def shutHoldsRow : OpenClaim := { program := "ytkhfgngcoiablaagreatdoor", sum := "71a3c7d3822060edb043738150fe453e369c478fb1bb827e32d1cdcc4f278630", func := "dormouse/dormouselaw17.ShutHolds", spec := "shutHolds", inPlace := ["internal/abi.NoEscape", "internal/bytealg.MakeNoZero"], named := ["internal/strconv.uint64pow10", "math/bits.deBruijn32tab", "math/bits.deBruijn64tab"], apart := false, laid := [("math/bits.deBruijn32tab", laid_math_bits_deBruijn32tab), ("math/bits.deBruijn64tab", laid_math_bits_deBruijn64tab), ("internal/strconv.uint64pow10", laid_internal_strconv_uint64pow10)] }
def ShutHoldsSaid : Prop := shutHoldsRow.holds Tryz.pinned (OpenSpec.ofChange shutHoldsSpec)

/-- ITS FALSE NEIGHBOUR: 'it returns false'. Refute it at one input. -/
def shutHoldsWrong : ChangeSpec := { name := "shutHolds", fn := fun _ => fun
  | [d1, d2] => { results := [.lit (.bool false)], args := [d1, d2] }
  | _ => none }
def ShutHoldsWrongFalsely : Prop := shutHoldsRow.holds Tryz.pinned (OpenSpec.ofChange shutHoldsWrong)

/-- 'dormouselaw14.WakeRegs': WHATEVER THE INPUT: true; the input reads as it did. -/
def wakeRegsSpec : ChangeSpec := { name := "wakeRegs", fn := fun _ => fun
  | [d1, d2, d3, d4] => { results := [.lit (.bool true)], args := [d1, d2, d3, d4] }
  | _ => none }
def wakeRegsRow : OpenClaim := { program := "ytkhfgngcoiablaagreatdoor", sum := "71a3c7d3822060edb043738150fe453e369c478fb1bb827e32d1cdcc4f278630", func := "dormouse/dormouselaw14.WakeRegs", spec := "wakeRegs", inPlace := ["internal/abi.NoEscape", "internal/bytealg.MakeNoZero"], named := ["internal/strconv.uint64pow10", "math/bits.deBruijn32tab", "math/bits.deBruijn64tab"], apart := false, laid := [("math/bits.deBruijn32tab", laid_math_bits_deBruijn32tab), ("math/bits.deBruijn64tab", laid_math_bits_deBruijn64tab), ("internal/strconv.uint64pow10", laid_internal_strconv_uint64pow10)] }
def WakeRegsSaid : Prop := wakeRegsRow.holds Tryz.pinned (OpenSpec.ofChange wakeRegsSpec)

/-- ITS FALSE NEIGHBOUR: 'it returns false'. Refute it at one input. -/
def wakeRegsWrong : ChangeSpec := { name := "wakeRegs", fn := fun _ => fun
  | [d1, d2, d3, d4] => { results := [.lit (.bool false)], args := [d1, d2, d3, d4] }
  | _ => none }
def WakeRegsWrongFalsely : Prop := wakeRegsRow.holds Tryz.pinned (OpenSpec.ofChange wakeRegsWrong)

/-- 'dormouselaw14.WakeNowhere': WHATEVER THE INPUT: true; the input reads as it did. -/
def wakeNowhereSpec : ChangeSpec := { name := "wakeNowhere", fn := fun _ => fun
  | [d1, d2, d3] => { results := [.lit (.bool true)], args := [d1, d2, d3] }
  | _ => none }
def wakeNowhereRow : OpenClaim := { program := "ytkhfgngcoiablaagreatdoor", sum := "71a3c7d3822060edb043738150fe453e369c478fb1bb827e32d1cdcc4f278630", func := "dormouse/dormouselaw14.WakeNowhere", spec := "wakeNowhere", inPlace := ["internal/abi.NoEscape", "internal/bytealg.MakeNoZero"], named := ["internal/strconv.uint64pow10", "math/bits.deBruijn32tab", "math/bits.deBruijn64tab"], apart := false, laid := [("math/bits.deBruijn32tab", laid_math_bits_deBruijn32tab), ("math/bits.deBruijn64tab", laid_math_bits_deBruijn64tab), ("internal/strconv.uint64pow10", laid_internal_strconv_uint64pow10)] }
def WakeNowhereSaid : Prop := wakeNowhereRow.holds Tryz.pinned (OpenSpec.ofChange wakeNowhereSpec)

/-- ITS FALSE NEIGHBOUR: 'it returns false'. Refute it at one input. -/
def wakeNowhereWrong : ChangeSpec := { name := "wakeNowhere", fn := fun _ => fun
  | [d1, d2, d3] => { results := [.lit (.bool false)], args := [d1, d2, d3] }
  | _ => none }
def WakeNowhereWrongFalsely : Prop := wakeNowhereRow.holds Tryz.pinned (OpenSpec.ofChange wakeNowhereWrong)

/-- 'dormouselaw17.ShutWakes': WHATEVER THE INPUT: true; the input reads as it did. -/
def shutWakesSpec : ChangeSpec := { name := "shutWakes", fn := fun _ => fun
  | [d1, d2] => { results := [.lit (.bool true)], args := [d1, d2] }
  | _ => none }
def shutWakesRow : OpenClaim := { program := "ytkhfgngcoiablaagreatdoor", sum := "71a3c7d3822060edb043738150fe453e369c478fb1bb827e32d1cdcc4f278630", func := "dormouse/dormouselaw17.ShutWakes", spec := "shutWakes", inPlace := ["internal/abi.NoEscape", "internal/bytealg.MakeNoZero"], unfollowed := true, recurses := true, named := ["internal/strconv.uint64pow10", "math/bits.deBruijn32tab", "math/bits.deBruijn64tab"], apart := false, laid := [("math/bits.deBruijn32tab", laid_math_bits_deBruijn32tab), ("math/bits.deBruijn64tab", laid_math_bits_deBruijn64tab), ("internal/strconv.uint64pow10", laid_internal_strconv_uint64pow10)] }
def ShutWakesSaid : Prop := shutWakesRow.holds Tryz.pinned (OpenSpec.ofChange shutWakesSpec)

/-- ITS FALSE NEIGHBOUR: 'it returns false'. Refute it at one input. -/
def shutWakesWrong : ChangeSpec := { name := "shutWakes", fn := fun _ => fun
  | [d1, d2] => { results := [.lit (.bool false)], args := [d1, d2] }
  | _ => none }
def ShutWakesWrongFalsely : Prop := shutWakesRow.holds Tryz.pinned (OpenSpec.ofChange shutWakesWrong)

/-- 'dormouselaw18.ChooseElse': WHATEVER THE INPUT: true; the input reads as it did. -/
def chooseElseSpec : ChangeSpec := { name := "chooseElse", fn := fun _ => fun
  | [d1, d2] => { results := [.lit (.bool true)], args := [d1, d2] }
  | _ => none }
def chooseElseRow : OpenClaim := { program := "ytkhfgngcoiablaagreatdoor", sum := "71a3c7d3822060edb043738150fe453e369c478fb1bb827e32d1cdcc4f278630", func := "dormouse/dormouselaw18.ChooseElse", spec := "chooseElse", inPlace := ["internal/abi.NoEscape", "internal/bytealg.MakeNoZero"], unfollowed := true, recurses := true, named := ["internal/strconv.uint64pow10", "math/bits.deBruijn32tab", "math/bits.deBruijn64tab"], apart := false, laid := [("math/bits.deBruijn32tab", laid_math_bits_deBruijn32tab), ("math/bits.deBruijn64tab", laid_math_bits_deBruijn64tab), ("internal/strconv.uint64pow10", laid_internal_strconv_uint64pow10)] }
def ChooseElseSaid : Prop := chooseElseRow.holds Tryz.pinned (OpenSpec.ofChange chooseElseSpec)

/-- ITS FALSE NEIGHBOUR: 'it returns false'. Refute it at one input. -/
def chooseElseWrong : ChangeSpec := { name := "chooseElse", fn := fun _ => fun
  | [d1, d2] => { results := [.lit (.bool false)], args := [d1, d2] }
  | _ => none }
def ChooseElseWrongFalsely : Prop := chooseElseRow.holds Tryz.pinned (OpenSpec.ofChange chooseElseWrong)

/-- 'dormouselaw12.RingTurns': WHATEVER THE INPUT: true; the input reads as it did. -/
def ringTurnsSpec : ChangeSpec := { name := "ringTurns", fn := fun _ => fun
  | [d1, d2, d3] => { results := [.lit (.bool true)], args := [d1, d2, d3] }
  | _ => none }
def ringTurnsRow : OpenClaim := { program := "ytkhfgngcoiablaagreatdoor", sum := "71a3c7d3822060edb043738150fe453e369c478fb1bb827e32d1cdcc4f278630", func := "dormouse/dormouselaw12.RingTurns", spec := "ringTurns", inPlace := ["internal/abi.NoEscape", "internal/bytealg.MakeNoZero"], unfollowed := true, recurses := true, named := ["internal/strconv.uint64pow10", "math/bits.deBruijn32tab", "math/bits.deBruijn64tab"], apart := false, laid := [("math/bits.deBruijn32tab", laid_math_bits_deBruijn32tab), ("math/bits.deBruijn64tab", laid_math_bits_deBruijn64tab), ("internal/strconv.uint64pow10", laid_internal_strconv_uint64pow10)] }
def RingTurnsSaid : Prop := ringTurnsRow.holds Tryz.pinned (OpenSpec.ofChange ringTurnsSpec)

/-- ITS FALSE NEIGHBOUR: 'it returns false'. Refute it at one input. -/
def ringTurnsWrong : ChangeSpec := { name := "ringTurns", fn := fun _ => fun
  | [d1, d2, d3] => { results := [.lit (.bool false)], args := [d1, d2, d3] }
  | _ => none }
def RingTurnsWrongFalsely : Prop := ringTurnsRow.holds Tryz.pinned (OpenSpec.ofChange ringTurnsWrong)

/-- 'dormouselaw12.RingApart': WHATEVER THE INPUT: true; the input reads as it did. -/
def ringApartSpec : ChangeSpec := { name := "ringApart", fn := fun _ => fun
  | [d1, d2] => { results := [.lit (.bool true)], args := [d1, d2] }
  | _ => none }
def ringApartRow : OpenClaim := { program := "ytkhfgngcoiablaagreatdoor", sum := "71a3c7d3822060edb043738150fe453e369c478fb1bb827e32d1cdcc4f278630", func := "dormouse/dormouselaw12.RingApart", spec := "ringApart", inPlace := ["internal/abi.NoEscape", "internal/bytealg.MakeNoZero"], unfollowed := true, recurses := true, named := ["internal/strconv.uint64pow10", "math/bits.deBruijn32tab", "math/bits.deBruijn64tab"], apart := false, laid := [("math/bits.deBruijn32tab", laid_math_bits_deBruijn32tab), ("math/bits.deBruijn64tab", laid_math_bits_deBruijn64tab), ("internal/strconv.uint64pow10", laid_internal_strconv_uint64pow10)] }
def RingApartSaid : Prop := ringApartRow.holds Tryz.pinned (OpenSpec.ofChange ringApartSpec)

/-- ITS FALSE NEIGHBOUR: 'it returns false'. Refute it at one input. -/
def ringApartWrong : ChangeSpec := { name := "ringApart", fn := fun _ => fun
  | [d1, d2] => { results := [.lit (.bool false)], args := [d1, d2] }
  | _ => none }
def RingApartWrongFalsely : Prop := ringApartRow.holds Tryz.pinned (OpenSpec.ofChange ringApartWrong)

/- THE SECOND FORM. 'bulk': how many values and letters a reading holds, each counted each time it is reached (what is shared counts as often as it is met; a slice's spare places count too). A statement '..UptoSaid' is the law's where the arguments, and the package variables that the reading takes, are together of bulk at most 1048576: NARROWER than '..Said'. Prove '..Said' where nothing that the law and all that it calls make is longer than what came in: it says more and counts as full. Else prove '..UptoSaid'. A law counts once. -/
mutual
def uptoBulk {H : Type} : DataW H → Nat
  | .lit (.string bytes) => bytes.length + 1
  | .lit _ => 1
  | .nil => 1
  | .ptr d => uptoBulk d + 1
  | .slice elems spare => uptoBulkAll elems + uptoBulkAll spare + 1
  | .agg parts => uptoBulkAll parts + 1
  | .iface _ d => uptoBulk d + 1
  | .map entries => uptoBulkEntries entries + 1
  | .held _ => 1
def uptoBulkAll {H : Type} : List (DataW H) → Nat
  | [] => 0
  | d :: r => uptoBulk d + uptoBulkAll r
def uptoBulkEntries {H : Type} : List (Lit × DataW H) → Nat
  | [] => 0
  | x :: r => uptoBulkEntry x + uptoBulkEntries r
def uptoBulkEntry {H : Type} : Lit × DataW H → Nat
  | (.string bytes, d) => bytes.length + uptoBulk d + 1
  | (_, d) => uptoBulk d + 1
 end
def uptoSmall : (H : Type) → List (DataW H) → Bool := fun _ ds => decide (uptoBulkAll ds ≤ 1048576)
def OpenSpec.upto (s : _root_.Go.ChangeSpec) : _root_.Go.OpenSpec := { _root_.Go.OpenSpec.ofChange s with cond := some uptoSmall }

/-- 'dormouselaw14.WakeParks', WHERE WHAT IT READS IS OF BULK AT MOST 1048576: true; the input reads as it did. -/
def wakeParksUptoRow : OpenClaim := { program := "ytkhfgngcoiablaagreatdoor", sum := "71a3c7d3822060edb043738150fe453e369c478fb1bb827e32d1cdcc4f278630", func := "dormouse/dormouselaw14.WakeParks", spec := "wakeParks", inPlace := ["internal/abi.NoEscape", "internal/bytealg.MakeNoZero"], named := ["internal/strconv.uint64pow10", "math/bits.deBruijn32tab", "math/bits.deBruijn64tab"], apart := false, laid := [("math/bits.deBruijn32tab", laid_math_bits_deBruijn32tab), ("math/bits.deBruijn64tab", laid_math_bits_deBruijn64tab), ("internal/strconv.uint64pow10", laid_internal_strconv_uint64pow10)], narrowed := true }
def WakeParksUptoSaid : Prop := wakeParksUptoRow.holds Tryz.pinned (OpenSpec.upto wakeParksSpec)

/-- 'dormouselaw16.TakeFirst', WHERE WHAT IT READS IS OF BULK AT MOST 1048576: true; the input reads as it did. -/
def takeFirstUptoRow : OpenClaim := { program := "ytkhfgngcoiablaagreatdoor", sum := "71a3c7d3822060edb043738150fe453e369c478fb1bb827e32d1cdcc4f278630", func := "dormouse/dormouselaw16.TakeFirst", spec := "takeFirst", inPlace := ["internal/abi.NoEscape", "internal/bytealg.MakeNoZero"], named := ["internal/strconv.uint64pow10", "math/bits.deBruijn32tab", "math/bits.deBruijn64tab"], apart := false, laid := [("math/bits.deBruijn32tab", laid_math_bits_deBruijn32tab), ("math/bits.deBruijn64tab", laid_math_bits_deBruijn64tab), ("internal/strconv.uint64pow10", laid_internal_strconv_uint64pow10)], narrowed := true }
def TakeFirstUptoSaid : Prop := takeFirstUptoRow.holds Tryz.pinned (OpenSpec.upto takeFirstSpec)

/-- 'dormouselaw17.ShutHolds', WHERE WHAT IT READS IS OF BULK AT MOST 1048576: true; the input reads as it did. -/
def shutHoldsUptoRow : OpenClaim := { program := "ytkhfgngcoiablaagreatdoor", sum := "71a3c7d3822060edb043738150fe453e369c478fb1bb827e32d1cdcc4f278630", func := "dormouse/dormouselaw17.ShutHolds", spec := "shutHolds", inPlace := ["internal/abi.NoEscape", "internal/bytealg.MakeNoZero"], named := ["internal/strconv.uint64pow10", "math/bits.deBruijn32tab", "math/bits.deBruijn64tab"], apart := false, laid := [("math/bits.deBruijn32tab", laid_math_bits_deBruijn32tab), ("math/bits.deBruijn64tab", laid_math_bits_deBruijn64tab), ("internal/strconv.uint64pow10", laid_internal_strconv_uint64pow10)], narrowed := true }
def ShutHoldsUptoSaid : Prop := shutHoldsUptoRow.holds Tryz.pinned (OpenSpec.upto shutHoldsSpec)

/-- 'dormouselaw14.WakeRegs', WHERE WHAT IT READS IS OF BULK AT MOST 1048576: true; the input reads as it did. -/
def wakeRegsUptoRow : OpenClaim := { program := "ytkhfgngcoiablaagreatdoor", sum := "71a3c7d3822060edb043738150fe453e369c478fb1bb827e32d1cdcc4f278630", func := "dormouse/dormouselaw14.WakeRegs", spec := "wakeRegs", inPlace := ["internal/abi.NoEscape", "internal/bytealg.MakeNoZero"], named := ["internal/strconv.uint64pow10", "math/bits.deBruijn32tab", "math/bits.deBruijn64tab"], apart := false, laid := [("math/bits.deBruijn32tab", laid_math_bits_deBruijn32tab), ("math/bits.deBruijn64tab", laid_math_bits_deBruijn64tab), ("internal/strconv.uint64pow10", laid_internal_strconv_uint64pow10)], narrowed := true }
def WakeRegsUptoSaid : Prop := wakeRegsUptoRow.holds Tryz.pinned (OpenSpec.upto wakeRegsSpec)

/-- 'dormouselaw14.WakeNowhere', WHERE WHAT IT READS IS OF BULK AT MOST 1048576: true; the input reads as it did. -/
def wakeNowhereUptoRow : OpenClaim := { program := "ytkhfgngcoiablaagreatdoor", sum := "71a3c7d3822060edb043738150fe453e369c478fb1bb827e32d1cdcc4f278630", func := "dormouse/dormouselaw14.WakeNowhere", spec := "wakeNowhere", inPlace := ["internal/abi.NoEscape", "internal/bytealg.MakeNoZero"], named := ["internal/strconv.uint64pow10", "math/bits.deBruijn32tab", "math/bits.deBruijn64tab"], apart := false, laid := [("math/bits.deBruijn32tab", laid_math_bits_deBruijn32tab), ("math/bits.deBruijn64tab", laid_math_bits_deBruijn64tab), ("internal/strconv.uint64pow10", laid_internal_strconv_uint64pow10)], narrowed := true }
def WakeNowhereUptoSaid : Prop := wakeNowhereUptoRow.holds Tryz.pinned (OpenSpec.upto wakeNowhereSpec)

/-- 'dormouselaw17.ShutWakes', WHERE WHAT IT READS IS OF BULK AT MOST 1048576: true; the input reads as it did. -/
def shutWakesUptoRow : OpenClaim := { program := "ytkhfgngcoiablaagreatdoor", sum := "71a3c7d3822060edb043738150fe453e369c478fb1bb827e32d1cdcc4f278630", func := "dormouse/dormouselaw17.ShutWakes", spec := "shutWakes", inPlace := ["internal/abi.NoEscape", "internal/bytealg.MakeNoZero"], unfollowed := true, recurses := true, named := ["internal/strconv.uint64pow10", "math/bits.deBruijn32tab", "math/bits.deBruijn64tab"], apart := false, laid := [("math/bits.deBruijn32tab", laid_math_bits_deBruijn32tab), ("math/bits.deBruijn64tab", laid_math_bits_deBruijn64tab), ("internal/strconv.uint64pow10", laid_internal_strconv_uint64pow10)], narrowed := true }
def ShutWakesUptoSaid : Prop := shutWakesUptoRow.holds Tryz.pinned (OpenSpec.upto shutWakesSpec)

/-- 'dormouselaw18.ChooseElse', WHERE WHAT IT READS IS OF BULK AT MOST 1048576: true; the input reads as it did. -/
def chooseElseUptoRow : OpenClaim := { program := "ytkhfgngcoiablaagreatdoor", sum := "71a3c7d3822060edb043738150fe453e369c478fb1bb827e32d1cdcc4f278630", func := "dormouse/dormouselaw18.ChooseElse", spec := "chooseElse", inPlace := ["internal/abi.NoEscape", "internal/bytealg.MakeNoZero"], unfollowed := true, recurses := true, named := ["internal/strconv.uint64pow10", "math/bits.deBruijn32tab", "math/bits.deBruijn64tab"], apart := false, laid := [("math/bits.deBruijn32tab", laid_math_bits_deBruijn32tab), ("math/bits.deBruijn64tab", laid_math_bits_deBruijn64tab), ("internal/strconv.uint64pow10", laid_internal_strconv_uint64pow10)], narrowed := true }
def ChooseElseUptoSaid : Prop := chooseElseUptoRow.holds Tryz.pinned (OpenSpec.upto chooseElseSpec)

/-- 'dormouselaw12.RingTurns', WHERE WHAT IT READS IS OF BULK AT MOST 1048576: true; the input reads as it did. -/
def ringTurnsUptoRow : OpenClaim := { program := "ytkhfgngcoiablaagreatdoor", sum := "71a3c7d3822060edb043738150fe453e369c478fb1bb827e32d1cdcc4f278630", func := "dormouse/dormouselaw12.RingTurns", spec := "ringTurns", inPlace := ["internal/abi.NoEscape", "internal/bytealg.MakeNoZero"], unfollowed := true, recurses := true, named := ["internal/strconv.uint64pow10", "math/bits.deBruijn32tab", "math/bits.deBruijn64tab"], apart := false, laid := [("math/bits.deBruijn32tab", laid_math_bits_deBruijn32tab), ("math/bits.deBruijn64tab", laid_math_bits_deBruijn64tab), ("internal/strconv.uint64pow10", laid_internal_strconv_uint64pow10)], narrowed := true }
def RingTurnsUptoSaid : Prop := ringTurnsUptoRow.holds Tryz.pinned (OpenSpec.upto ringTurnsSpec)

/-- 'dormouselaw12.RingApart', WHERE WHAT IT READS IS OF BULK AT MOST 1048576: true; the input reads as it did. -/
def ringApartUptoRow : OpenClaim := { program := "ytkhfgngcoiablaagreatdoor", sum := "71a3c7d3822060edb043738150fe453e369c478fb1bb827e32d1cdcc4f278630", func := "dormouse/dormouselaw12.RingApart", spec := "ringApart", inPlace := ["internal/abi.NoEscape", "internal/bytealg.MakeNoZero"], unfollowed := true, recurses := true, named := ["internal/strconv.uint64pow10", "math/bits.deBruijn32tab", "math/bits.deBruijn64tab"], apart := false, laid := [("math/bits.deBruijn32tab", laid_math_bits_deBruijn32tab), ("math/bits.deBruijn64tab", laid_math_bits_deBruijn64tab), ("internal/strconv.uint64pow10", laid_internal_strconv_uint64pow10)], narrowed := true }
def RingApartUptoSaid : Prop := ringApartUptoRow.holds Tryz.pinned (OpenSpec.upto ringApartSpec)

end Rows
end Go.Proofs.YtkhfgngcoiablaaGreatDoor
