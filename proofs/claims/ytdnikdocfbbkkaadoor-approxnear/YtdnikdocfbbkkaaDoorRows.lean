/-
  NARROWER THAN 'FOR EVERY INPUT', by the rows' own cells (each row's printed sentence says how): NatTexts: laid · NatWide: laid · RatTells: laid · RatMakes: laid · ApproxFloats: laid · ApproxExact: laid · ApproxBack: laid · ApproxRises: laid · ApproxNear: laid · ApproxWhole: laid · ApproxTwice: laid.
  DERIVED. THE GIVEN ROWS OF THIS SEAT. 11 by the template 'for every input the law returns true; each argument reads behind the call as it read before'; 0 by the template 'total and deterministic' (their statements: YtdnikdocfbbkkaaDoorTotals.lean).
  GIVEN WITH THE SEED: the statements are not yours to turn. If you find one false, say at which input.
  Laid BY PROGRAM, IN A SANDBOX (cutbox-rows.mjs): the forced cells as the released guide's own fill.sh prints them over the translation c06434e61670d9ee… (all of the seat's roots in one cut). By AI agents, Wed Nov 11 2026. No macro, syntax, notation, axiom, sorry.
-/
import Derived.Test.YtdnikdocfbbkkaaDoorChecked
import GoSem.PinnedTables
import GoSem.Claim
import GoSem.ClaimJoined
import GoSem.ClaimMapViews
import Derived.JoinedTies
import Derived.KernelRfl
namespace Go.Proofs.YtdnikdocfbbkkaaDoor
/- THE CELL 'sum', in the pinned program and in every row, IS THE sha256 OF THE DUMP (.gsa) THAT YtdnikdocfbbkkaaDoorProg.lean LOADS. Nothing in Lean hashes anything: it is a label: what it is worth is what the hold of that sum in a sandbox is worth. -/
noncomputable def Tryd.pinned : Pinned := { name := "ytdnikdocfbbkkaadoor", sum := "c06434e61670d9eea184860a1a73efbcd84598a04b42114507522802611857cd", checked := Tryd.checked }
namespace Rows
def none {H : Type} : Left H := { results := [], args := [] }

/- WHAT THE LISTED PACKAGE-LEVEL VARIABLES READ AS WHEN THE CALL BEGINS. Each datum BY PROGRAM (the guide's laid-datum.mjs) off the statement by which the dump's own 'gosem.cut.vars' lays the variable. In a bare row this is a premise. The card (YtdnikdocfbbkkaaDoorCards.lean) ties it to the program's text. -/
def laid_unicode_utf8_acceptRanges {H : Type} : DataW H := .agg [.agg [.lit (.int .u8 128), .lit (.int .u8 191)], .agg [.lit (.int .u8 160), .lit (.int .u8 191)], .agg [.lit (.int .u8 128), .lit (.int .u8 159)], .agg [.lit (.int .u8 144), .lit (.int .u8 191)], .agg [.lit (.int .u8 128), .lit (.int .u8 143)], .agg [.lit (.int .u8 0), .lit (.int .u8 0)], .agg [.lit (.int .u8 0), .lit (.int .u8 0)], .agg [.lit (.int .u8 0), .lit (.int .u8 0)], .agg [.lit (.int .u8 0), .lit (.int .u8 0)], .agg [.lit (.int .u8 0), .lit (.int .u8 0)], .agg [.lit (.int .u8 0), .lit (.int .u8 0)], .agg [.lit (.int .u8 0), .lit (.int .u8 0)], .agg [.lit (.int .u8 0), .lit (.int .u8 0)], .agg [.lit (.int .u8 0), .lit (.int .u8 0)], .agg [.lit (.int .u8 0), .lit (.int .u8 0)], .agg [.lit (.int .u8 0), .lit (.int .u8 0)]]
/-- One of Go's own tables, pinned by name: the form's constant. -/
def laid_unicode_utf8_first : DataW Unit := Go.Pinned.utf8First

/-- 'samphirelaw02.NatTexts': WHATEVER THE INPUT: true; the input reads as it did. -/
def natTextsSpec : ChangeSpec := { name := "natTexts", fn := fun _ => fun
  | [d1, d2, d3] => { results := [.lit (.bool true)], args := [d1, d2, d3] }
  | _ => none }
def natTextsRow : OpenClaim := { program := "ytdnikdocfbbkkaadoor", sum := "c06434e61670d9eea184860a1a73efbcd84598a04b42114507522802611857cd", func := "samphire/samphirelaw02.NatTexts", spec := "natTexts", named := ["math/bits.overflowError", "unicode/utf8.first", "unicode/utf8.acceptRanges"], apart := false, laid := [("unicode/utf8.acceptRanges", laid_unicode_utf8_acceptRanges), ("unicode/utf8.first", laid_unicode_utf8_first)] }
def NatTextsSaid : Prop := natTextsRow.holds Tryd.pinned (OpenSpec.ofChange natTextsSpec)

/-- ITS FALSE NEIGHBOUR: 'it returns false'. Refute it at one input. -/
def natTextsWrong : ChangeSpec := { name := "natTexts", fn := fun _ => fun
  | [d1, d2, d3] => { results := [.lit (.bool false)], args := [d1, d2, d3] }
  | _ => none }
def NatTextsWrongFalsely : Prop := natTextsRow.holds Tryd.pinned (OpenSpec.ofChange natTextsWrong)

/-- 'samphirelaw02.NatWide': WHATEVER THE INPUT: true; the input reads as it did. -/
def natWideSpec : ChangeSpec := { name := "natWide", fn := fun _ => fun
  | [d1, d2] => { results := [.lit (.bool true)], args := [d1, d2] }
  | _ => none }
def natWideRow : OpenClaim := { program := "ytdnikdocfbbkkaadoor", sum := "c06434e61670d9eea184860a1a73efbcd84598a04b42114507522802611857cd", func := "samphire/samphirelaw02.NatWide", spec := "natWide", inPlace := ["math/bits.Add64"], named := ["math/bits.overflowError", "unicode/utf8.first", "unicode/utf8.acceptRanges", "math/bits.divideError"], apart := false, laid := [("unicode/utf8.acceptRanges", laid_unicode_utf8_acceptRanges), ("unicode/utf8.first", laid_unicode_utf8_first)] }
def NatWideSaid : Prop := natWideRow.holds Tryd.pinned (OpenSpec.ofChange natWideSpec)

/-- ITS FALSE NEIGHBOUR: 'it returns false'. Refute it at one input. -/
def natWideWrong : ChangeSpec := { name := "natWide", fn := fun _ => fun
  | [d1, d2] => { results := [.lit (.bool false)], args := [d1, d2] }
  | _ => none }
def NatWideWrongFalsely : Prop := natWideRow.holds Tryd.pinned (OpenSpec.ofChange natWideWrong)

/-- 'samphirelaw03.RatTells': WHATEVER THE INPUT: true; the input reads as it did. -/
def ratTellsSpec : ChangeSpec := { name := "ratTells", fn := fun _ => fun
  | [d1, d2] => { results := [.lit (.bool true)], args := [d1, d2] }
  | _ => none }
def ratTellsRow : OpenClaim := { program := "ytdnikdocfbbkkaadoor", sum := "c06434e61670d9eea184860a1a73efbcd84598a04b42114507522802611857cd", func := "samphire/samphirelaw03.RatTells", spec := "ratTells", unfollowed := true, recurses := true, named := ["math/bits.overflowError", "unicode/utf8.first", "unicode/utf8.acceptRanges"], apart := false, laid := [("unicode/utf8.acceptRanges", laid_unicode_utf8_acceptRanges), ("unicode/utf8.first", laid_unicode_utf8_first)] }
def RatTellsSaid : Prop := ratTellsRow.holds Tryd.pinned (OpenSpec.ofChange ratTellsSpec)

/-- ITS FALSE NEIGHBOUR: 'it returns false'. Refute it at one input. -/
def ratTellsWrong : ChangeSpec := { name := "ratTells", fn := fun _ => fun
  | [d1, d2] => { results := [.lit (.bool false)], args := [d1, d2] }
  | _ => none }
def RatTellsWrongFalsely : Prop := ratTellsRow.holds Tryd.pinned (OpenSpec.ofChange ratTellsWrong)

/-- 'samphirelaw03.RatMakes': WHATEVER THE INPUT: true; the input reads as it did. -/
def ratMakesSpec : ChangeSpec := { name := "ratMakes", fn := fun _ => fun
  | [d1, d2, d3] => { results := [.lit (.bool true)], args := [d1, d2, d3] }
  | _ => none }
def ratMakesRow : OpenClaim := { program := "ytdnikdocfbbkkaadoor", sum := "c06434e61670d9eea184860a1a73efbcd84598a04b42114507522802611857cd", func := "samphire/samphirelaw03.RatMakes", spec := "ratMakes", unfollowed := true, recurses := true, named := ["math/bits.overflowError", "unicode/utf8.first", "unicode/utf8.acceptRanges"], apart := false, laid := [("unicode/utf8.acceptRanges", laid_unicode_utf8_acceptRanges), ("unicode/utf8.first", laid_unicode_utf8_first)] }
def RatMakesSaid : Prop := ratMakesRow.holds Tryd.pinned (OpenSpec.ofChange ratMakesSpec)

/-- ITS FALSE NEIGHBOUR: 'it returns false'. Refute it at one input. -/
def ratMakesWrong : ChangeSpec := { name := "ratMakes", fn := fun _ => fun
  | [d1, d2, d3] => { results := [.lit (.bool false)], args := [d1, d2, d3] }
  | _ => none }
def RatMakesWrongFalsely : Prop := ratMakesRow.holds Tryd.pinned (OpenSpec.ofChange ratMakesWrong)

/-- 'samphirelaw04.ApproxFloats': WHATEVER THE INPUT: true; the input reads as it did. -/
def approxFloatsSpec : ChangeSpec := { name := "approxFloats", fn := fun _ => fun
  | [d] => { results := [.lit (.bool true)], args := [d] }
  | _ => none }
def approxFloatsRow : OpenClaim := { program := "ytdnikdocfbbkkaadoor", sum := "c06434e61670d9eea184860a1a73efbcd84598a04b42114507522802611857cd", func := "samphire/samphirelaw04.ApproxFloats", spec := "approxFloats", inPlace := ["math.Float64frombits", "math.Float64bits"], unfollowed := true, recurses := true, named := ["math/bits.overflowError", "unicode/utf8.first", "unicode/utf8.acceptRanges"], apart := false, laid := [("unicode/utf8.acceptRanges", laid_unicode_utf8_acceptRanges), ("unicode/utf8.first", laid_unicode_utf8_first)] }
def ApproxFloatsSaid : Prop := approxFloatsRow.holds Tryd.pinned (OpenSpec.ofChange approxFloatsSpec)

/-- ITS FALSE NEIGHBOUR: 'it returns false'. Refute it at one input. -/
def approxFloatsWrong : ChangeSpec := { name := "approxFloats", fn := fun _ => fun
  | [d] => { results := [.lit (.bool false)], args := [d] }
  | _ => none }
def ApproxFloatsWrongFalsely : Prop := approxFloatsRow.holds Tryd.pinned (OpenSpec.ofChange approxFloatsWrong)

/-- 'samphirelaw04.ApproxExact': WHATEVER THE INPUT: true; the input reads as it did. -/
def approxExactSpec : ChangeSpec := { name := "approxExact", fn := fun _ => fun
  | [d] => { results := [.lit (.bool true)], args := [d] }
  | _ => none }
def approxExactRow : OpenClaim := { program := "ytdnikdocfbbkkaadoor", sum := "c06434e61670d9eea184860a1a73efbcd84598a04b42114507522802611857cd", func := "samphire/samphirelaw04.ApproxExact", spec := "approxExact", inPlace := ["math.Float64bits", "math.Float64frombits"], unfollowed := true, recurses := true, named := ["math/bits.overflowError", "unicode/utf8.first", "unicode/utf8.acceptRanges"], apart := false, laid := [("unicode/utf8.acceptRanges", laid_unicode_utf8_acceptRanges), ("unicode/utf8.first", laid_unicode_utf8_first)] }
def ApproxExactSaid : Prop := approxExactRow.holds Tryd.pinned (OpenSpec.ofChange approxExactSpec)

/-- ITS FALSE NEIGHBOUR: 'it returns false'. Refute it at one input. -/
def approxExactWrong : ChangeSpec := { name := "approxExact", fn := fun _ => fun
  | [d] => { results := [.lit (.bool false)], args := [d] }
  | _ => none }
def ApproxExactWrongFalsely : Prop := approxExactRow.holds Tryd.pinned (OpenSpec.ofChange approxExactWrong)

/-- 'samphirelaw04.ApproxBack': WHATEVER THE INPUT: true; the input reads as it did. -/
def approxBackSpec : ChangeSpec := { name := "approxBack", fn := fun _ => fun
  | [d] => { results := [.lit (.bool true)], args := [d] }
  | _ => none }
def approxBackRow : OpenClaim := { program := "ytdnikdocfbbkkaadoor", sum := "c06434e61670d9eea184860a1a73efbcd84598a04b42114507522802611857cd", func := "samphire/samphirelaw04.ApproxBack", spec := "approxBack", inPlace := ["math.Float64bits", "math.Float64frombits"], unfollowed := true, recurses := true, named := ["math/bits.overflowError", "unicode/utf8.first", "unicode/utf8.acceptRanges"], apart := false, laid := [("unicode/utf8.acceptRanges", laid_unicode_utf8_acceptRanges), ("unicode/utf8.first", laid_unicode_utf8_first)] }
def ApproxBackSaid : Prop := approxBackRow.holds Tryd.pinned (OpenSpec.ofChange approxBackSpec)

/-- ITS FALSE NEIGHBOUR: 'it returns false'. Refute it at one input. -/
def approxBackWrong : ChangeSpec := { name := "approxBack", fn := fun _ => fun
  | [d] => { results := [.lit (.bool false)], args := [d] }
  | _ => none }
def ApproxBackWrongFalsely : Prop := approxBackRow.holds Tryd.pinned (OpenSpec.ofChange approxBackWrong)

/-- 'samphirelaw04.ApproxRises': WHATEVER THE INPUT: true; the input reads as it did. -/
def approxRisesSpec : ChangeSpec := { name := "approxRises", fn := fun _ => fun
  | [d1, d2] => { results := [.lit (.bool true)], args := [d1, d2] }
  | _ => none }
def approxRisesRow : OpenClaim := { program := "ytdnikdocfbbkkaadoor", sum := "c06434e61670d9eea184860a1a73efbcd84598a04b42114507522802611857cd", func := "samphire/samphirelaw04.ApproxRises", spec := "approxRises", inPlace := ["math.Float64frombits", "math.Float64bits"], unfollowed := true, recurses := true, named := ["math/bits.overflowError", "unicode/utf8.first", "unicode/utf8.acceptRanges"], apart := false, laid := [("unicode/utf8.acceptRanges", laid_unicode_utf8_acceptRanges), ("unicode/utf8.first", laid_unicode_utf8_first)] }
def ApproxRisesSaid : Prop := approxRisesRow.holds Tryd.pinned (OpenSpec.ofChange approxRisesSpec)

/-- ITS FALSE NEIGHBOUR: 'it returns false'. Refute it at one input. -/
def approxRisesWrong : ChangeSpec := { name := "approxRises", fn := fun _ => fun
  | [d1, d2] => { results := [.lit (.bool false)], args := [d1, d2] }
  | _ => none }
def ApproxRisesWrongFalsely : Prop := approxRisesRow.holds Tryd.pinned (OpenSpec.ofChange approxRisesWrong)

/-- 'samphirelaw04.ApproxNear': WHATEVER THE INPUT: true; the input reads as it did. -/
def approxNearSpec : ChangeSpec := { name := "approxNear", fn := fun _ => fun
  | [d] => { results := [.lit (.bool true)], args := [d] }
  | _ => none }
def approxNearRow : OpenClaim := { program := "ytdnikdocfbbkkaadoor", sum := "c06434e61670d9eea184860a1a73efbcd84598a04b42114507522802611857cd", func := "samphire/samphirelaw04.ApproxNear", spec := "approxNear", inPlace := ["math.Float64frombits", "math.Float64bits"], unfollowed := true, recurses := true, named := ["math/bits.overflowError", "unicode/utf8.first", "unicode/utf8.acceptRanges"], apart := false, laid := [("unicode/utf8.acceptRanges", laid_unicode_utf8_acceptRanges), ("unicode/utf8.first", laid_unicode_utf8_first)] }
def ApproxNearSaid : Prop := approxNearRow.holds Tryd.pinned (OpenSpec.ofChange approxNearSpec)

/-- ITS FALSE NEIGHBOUR: 'it returns false'. Refute it at one input. -/
def approxNearWrong : ChangeSpec := { name := "approxNear", fn := fun _ => fun
  | [d] => { results := [.lit (.bool false)], args := [d] }
  | _ => none }
def ApproxNearWrongFalsely : Prop := approxNearRow.holds Tryd.pinned (OpenSpec.ofChange approxNearWrong)

/-- 'samphirelaw04.ApproxWhole': WHATEVER THE INPUT: true; the input reads as it did. -/
def approxWholeSpec : ChangeSpec := { name := "approxWhole", fn := fun _ => fun
  | [d] => { results := [.lit (.bool true)], args := [d] }
  | _ => none }
def approxWholeRow : OpenClaim := { program := "ytdnikdocfbbkkaadoor", sum := "c06434e61670d9eea184860a1a73efbcd84598a04b42114507522802611857cd", func := "samphire/samphirelaw04.ApproxWhole", spec := "approxWhole", inPlace := ["math.Float64frombits", "math.Float64bits"], unfollowed := true, recurses := true, named := ["math/bits.overflowError", "unicode/utf8.first", "unicode/utf8.acceptRanges"], apart := false, laid := [("unicode/utf8.acceptRanges", laid_unicode_utf8_acceptRanges), ("unicode/utf8.first", laid_unicode_utf8_first)] }
def ApproxWholeSaid : Prop := approxWholeRow.holds Tryd.pinned (OpenSpec.ofChange approxWholeSpec)

/-- ITS FALSE NEIGHBOUR: 'it returns false'. Refute it at one input. -/
def approxWholeWrong : ChangeSpec := { name := "approxWhole", fn := fun _ => fun
  | [d] => { results := [.lit (.bool false)], args := [d] }
  | _ => none }
def ApproxWholeWrongFalsely : Prop := approxWholeRow.holds Tryd.pinned (OpenSpec.ofChange approxWholeWrong)

/-- 'samphirelaw04.ApproxTwice': WHATEVER THE INPUT: true; the input reads as it did. -/
def approxTwiceSpec : ChangeSpec := { name := "approxTwice", fn := fun _ => fun
  | [d] => { results := [.lit (.bool true)], args := [d] }
  | _ => none }
def approxTwiceRow : OpenClaim := { program := "ytdnikdocfbbkkaadoor", sum := "c06434e61670d9eea184860a1a73efbcd84598a04b42114507522802611857cd", func := "samphire/samphirelaw04.ApproxTwice", spec := "approxTwice", inPlace := ["math.Float64frombits", "math.Float64bits"], unfollowed := true, recurses := true, named := ["math/bits.overflowError", "unicode/utf8.first", "unicode/utf8.acceptRanges"], apart := false, laid := [("unicode/utf8.acceptRanges", laid_unicode_utf8_acceptRanges), ("unicode/utf8.first", laid_unicode_utf8_first)] }
def ApproxTwiceSaid : Prop := approxTwiceRow.holds Tryd.pinned (OpenSpec.ofChange approxTwiceSpec)

/-- ITS FALSE NEIGHBOUR: 'it returns false'. Refute it at one input. -/
def approxTwiceWrong : ChangeSpec := { name := "approxTwice", fn := fun _ => fun
  | [d] => { results := [.lit (.bool false)], args := [d] }
  | _ => none }
def ApproxTwiceWrongFalsely : Prop := approxTwiceRow.holds Tryd.pinned (OpenSpec.ofChange approxTwiceWrong)

/- THE SECOND FORM. 'bulk': how many values and letters a reading holds, each counted each time it is reached (what is shared counts as often as it is met; a slice's spare places count too). A statement '..UptoSaid' is the law's where the arguments, and the package variables that the reading takes, are together of bulk at most 1048576: NARROWER than '..Said'. Prove '..Said' where nothing that the law and all that it calls make is longer than what came in: it says more and counts as full. Else prove '..UptoSaid'. A law counts once. -/
mutual
def uptoBulk {H : Type} : DataW H → Nat
  | .lit (.string bytes) => bytes.length + 1
  | .lit _ => 1
  | .nil => 1
  | .ptr d => uptoBulk d + 1
  | .slice elems spare => uptoBulkAll elems + uptoBulkAll spare + 1
  | .agg parts => uptoBulkAll parts + 1
  | .iface _ d => uptoBulk d + 1
  | .map entries => uptoBulkEntries entries + 1
  | .held _ => 1
def uptoBulkAll {H : Type} : List (DataW H) → Nat
  | [] => 0
  | d :: r => uptoBulk d + uptoBulkAll r
def uptoBulkEntries {H : Type} : List (Lit × DataW H) → Nat
  | [] => 0
  | x :: r => uptoBulkEntry x + uptoBulkEntries r
def uptoBulkEntry {H : Type} : Lit × DataW H → Nat
  | (.string bytes, d) => bytes.length + uptoBulk d + 1
  | (_, d) => uptoBulk d + 1
 end
def uptoSmall : (H : Type) → List (DataW H) → Bool := fun _ ds => decide (uptoBulkAll ds ≤ 1048576)
def OpenSpec.upto (s : _root_.Go.ChangeSpec) : _root_.Go.OpenSpec := { _root_.Go.OpenSpec.ofChange s with cond := some uptoSmall }

/-- 'samphirelaw02.NatTexts', WHERE WHAT IT READS IS OF BULK AT MOST 1048576: true; the input reads as it did. -/
def natTextsUptoRow : OpenClaim := { program := "ytdnikdocfbbkkaadoor", sum := "c06434e61670d9eea184860a1a73efbcd84598a04b42114507522802611857cd", func := "samphire/samphirelaw02.NatTexts", spec := "natTexts", named := ["math/bits.overflowError", "unicode/utf8.first", "unicode/utf8.acceptRanges"], apart := false, laid := [("unicode/utf8.acceptRanges", laid_unicode_utf8_acceptRanges), ("unicode/utf8.first", laid_unicode_utf8_first)], narrowed := true }
def NatTextsUptoSaid : Prop := natTextsUptoRow.holds Tryd.pinned (OpenSpec.upto natTextsSpec)

/-- 'samphirelaw02.NatWide', WHERE WHAT IT READS IS OF BULK AT MOST 1048576: true; the input reads as it did. -/
def natWideUptoRow : OpenClaim := { program := "ytdnikdocfbbkkaadoor", sum := "c06434e61670d9eea184860a1a73efbcd84598a04b42114507522802611857cd", func := "samphire/samphirelaw02.NatWide", spec := "natWide", inPlace := ["math/bits.Add64"], named := ["math/bits.overflowError", "unicode/utf8.first", "unicode/utf8.acceptRanges", "math/bits.divideError"], apart := false, laid := [("unicode/utf8.acceptRanges", laid_unicode_utf8_acceptRanges), ("unicode/utf8.first", laid_unicode_utf8_first)], narrowed := true }
def NatWideUptoSaid : Prop := natWideUptoRow.holds Tryd.pinned (OpenSpec.upto natWideSpec)

/-- 'samphirelaw03.RatTells', WHERE WHAT IT READS IS OF BULK AT MOST 1048576: true; the input reads as it did. -/
def ratTellsUptoRow : OpenClaim := { program := "ytdnikdocfbbkkaadoor", sum := "c06434e61670d9eea184860a1a73efbcd84598a04b42114507522802611857cd", func := "samphire/samphirelaw03.RatTells", spec := "ratTells", unfollowed := true, recurses := true, named := ["math/bits.overflowError", "unicode/utf8.first", "unicode/utf8.acceptRanges"], apart := false, laid := [("unicode/utf8.acceptRanges", laid_unicode_utf8_acceptRanges), ("unicode/utf8.first", laid_unicode_utf8_first)], narrowed := true }
def RatTellsUptoSaid : Prop := ratTellsUptoRow.holds Tryd.pinned (OpenSpec.upto ratTellsSpec)

/-- 'samphirelaw03.RatMakes', WHERE WHAT IT READS IS OF BULK AT MOST 1048576: true; the input reads as it did. -/
def ratMakesUptoRow : OpenClaim := { program := "ytdnikdocfbbkkaadoor", sum := "c06434e61670d9eea184860a1a73efbcd84598a04b42114507522802611857cd", func := "samphire/samphirelaw03.RatMakes", spec := "ratMakes", unfollowed := true, recurses := true, named := ["math/bits.overflowError", "unicode/utf8.first", "unicode/utf8.acceptRanges"], apart := false, laid := [("unicode/utf8.acceptRanges", laid_unicode_utf8_acceptRanges), ("unicode/utf8.first", laid_unicode_utf8_first)], narrowed := true }
def RatMakesUptoSaid : Prop := ratMakesUptoRow.holds Tryd.pinned (OpenSpec.upto ratMakesSpec)

/-- 'samphirelaw04.ApproxFloats', WHERE WHAT IT READS IS OF BULK AT MOST 1048576: true; the input reads as it did. -/
def approxFloatsUptoRow : OpenClaim := { program := "ytdnikdocfbbkkaadoor", sum := "c06434e61670d9eea184860a1a73efbcd84598a04b42114507522802611857cd", func := "samphire/samphirelaw04.ApproxFloats", spec := "approxFloats", inPlace := ["math.Float64frombits", "math.Float64bits"], unfollowed := true, recurses := true, named := ["math/bits.overflowError", "unicode/utf8.first", "unicode/utf8.acceptRanges"], apart := false, laid := [("unicode/utf8.acceptRanges", laid_unicode_utf8_acceptRanges), ("unicode/utf8.first", laid_unicode_utf8_first)], narrowed := true }
def ApproxFloatsUptoSaid : Prop := approxFloatsUptoRow.holds Tryd.pinned (OpenSpec.upto approxFloatsSpec)

/-- 'samphirelaw04.ApproxExact', WHERE WHAT IT READS IS OF BULK AT MOST 1048576: true; the input reads as it did. -/
def approxExactUptoRow : OpenClaim := { program := "ytdnikdocfbbkkaadoor", sum := "c06434e61670d9eea184860a1a73efbcd84598a04b42114507522802611857cd", func := "samphire/samphirelaw04.ApproxExact", spec := "approxExact", inPlace := ["math.Float64bits", "math.Float64frombits"], unfollowed := true, recurses := true, named := ["math/bits.overflowError", "unicode/utf8.first", "unicode/utf8.acceptRanges"], apart := false, laid := [("unicode/utf8.acceptRanges", laid_unicode_utf8_acceptRanges), ("unicode/utf8.first", laid_unicode_utf8_first)], narrowed := true }
def ApproxExactUptoSaid : Prop := approxExactUptoRow.holds Tryd.pinned (OpenSpec.upto approxExactSpec)

/-- 'samphirelaw04.ApproxBack', WHERE WHAT IT READS IS OF BULK AT MOST 1048576: true; the input reads as it did. -/
def approxBackUptoRow : OpenClaim := { program := "ytdnikdocfbbkkaadoor", sum := "c06434e61670d9eea184860a1a73efbcd84598a04b42114507522802611857cd", func := "samphire/samphirelaw04.ApproxBack", spec := "approxBack", inPlace := ["math.Float64bits", "math.Float64frombits"], unfollowed := true, recurses := true, named := ["math/bits.overflowError", "unicode/utf8.first", "unicode/utf8.acceptRanges"], apart := false, laid := [("unicode/utf8.acceptRanges", laid_unicode_utf8_acceptRanges), ("unicode/utf8.first", laid_unicode_utf8_first)], narrowed := true }
def ApproxBackUptoSaid : Prop := approxBackUptoRow.holds Tryd.pinned (OpenSpec.upto approxBackSpec)

/-- 'samphirelaw04.ApproxRises', WHERE WHAT IT READS IS OF BULK AT MOST 1048576: true; the input reads as it did. -/
def approxRisesUptoRow : OpenClaim := { program := "ytdnikdocfbbkkaadoor", sum := "c06434e61670d9eea184860a1a73efbcd84598a04b42114507522802611857cd", func := "samphire/samphirelaw04.ApproxRises", spec := "approxRises", inPlace := ["math.Float64frombits", "math.Float64bits"], unfollowed := true, recurses := true, named := ["math/bits.overflowError", "unicode/utf8.first", "unicode/utf8.acceptRanges"], apart := false, laid := [("unicode/utf8.acceptRanges", laid_unicode_utf8_acceptRanges), ("unicode/utf8.first", laid_unicode_utf8_first)], narrowed := true }
def ApproxRisesUptoSaid : Prop := approxRisesUptoRow.holds Tryd.pinned (OpenSpec.upto approxRisesSpec)

/-- 'samphirelaw04.ApproxNear', WHERE WHAT IT READS IS OF BULK AT MOST 1048576: true; the input reads as it did. -/
def approxNearUptoRow : OpenClaim := { program := "ytdnikdocfbbkkaadoor", sum := "c06434e61670d9eea184860a1a73efbcd84598a04b42114507522802611857cd", func := "samphire/samphirelaw04.ApproxNear", spec := "approxNear", inPlace := ["math.Float64frombits", "math.Float64bits"], unfollowed := true, recurses := true, named := ["math/bits.overflowError", "unicode/utf8.first", "unicode/utf8.acceptRanges"], apart := false, laid := [("unicode/utf8.acceptRanges", laid_unicode_utf8_acceptRanges), ("unicode/utf8.first", laid_unicode_utf8_first)], narrowed := true }
def ApproxNearUptoSaid : Prop := approxNearUptoRow.holds Tryd.pinned (OpenSpec.upto approxNearSpec)

/-- 'samphirelaw04.ApproxWhole', WHERE WHAT IT READS IS OF BULK AT MOST 1048576: true; the input reads as it did. -/
def approxWholeUptoRow : OpenClaim := { program := "ytdnikdocfbbkkaadoor", sum := "c06434e61670d9eea184860a1a73efbcd84598a04b42114507522802611857cd", func := "samphire/samphirelaw04.ApproxWhole", spec := "approxWhole", inPlace := ["math.Float64frombits", "math.Float64bits"], unfollowed := true, recurses := true, named := ["math/bits.overflowError", "unicode/utf8.first", "unicode/utf8.acceptRanges"], apart := false, laid := [("unicode/utf8.acceptRanges", laid_unicode_utf8_acceptRanges), ("unicode/utf8.first", laid_unicode_utf8_first)], narrowed := true }
def ApproxWholeUptoSaid : Prop := approxWholeUptoRow.holds Tryd.pinned (OpenSpec.upto approxWholeSpec)

/-- 'samphirelaw04.ApproxTwice', WHERE WHAT IT READS IS OF BULK AT MOST 1048576: true; the input reads as it did. -/
def approxTwiceUptoRow : OpenClaim := { program := "ytdnikdocfbbkkaadoor", sum := "c06434e61670d9eea184860a1a73efbcd84598a04b42114507522802611857cd", func := "samphire/samphirelaw04.ApproxTwice", spec := "approxTwice", inPlace := ["math.Float64frombits", "math.Float64bits"], unfollowed := true, recurses := true, named := ["math/bits.overflowError", "unicode/utf8.first", "unicode/utf8.acceptRanges"], apart := false, laid := [("unicode/utf8.acceptRanges", laid_unicode_utf8_acceptRanges), ("unicode/utf8.first", laid_unicode_utf8_first)], narrowed := true }
def ApproxTwiceUptoSaid : Prop := approxTwiceUptoRow.holds Tryd.pinned (OpenSpec.upto approxTwiceSpec)

end Rows
end Go.Proofs.YtdnikdocfbbkkaaDoor
