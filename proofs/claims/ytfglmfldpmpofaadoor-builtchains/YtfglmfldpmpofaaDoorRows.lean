/-
  NARROWER THAN 'FOR EVERY INPUT', by the rows' own cells (each row's printed sentence says how): BuiltAny: laid · BuiltNames: laid · BuiltChains: laid · BuiltTypes: laid · BuiltTexts: laid · BuiltSames: laid.
  DERIVED. THE GIVEN ROWS OF THIS SEAT. 6 by the template 'for every input the law returns true; each argument reads behind the call as it read before'; 0 by the template 'total and deterministic' (their statements: YtfglmfldpmpofaaDoorTotals.lean).
  GIVEN WITH THE SEED: the statements are not yours to turn. If you find one false, say at which input.
  Laid BY PROGRAM, IN A SANDBOX (cutbox-rows.mjs): the forced cells as the released guide's own fill.sh prints them over the translation 8f3ce800c858e727… (all of the seat's roots in one cut). By AI agents, Wed Nov 11 2026. No macro, syntax, notation, axiom, sorry.
-/
import Derived.Test.YtfglmfldpmpofaaDoorChecked
import GoSem.Claim
import GoSem.ClaimJoined
import GoSem.ClaimMapViews
import Derived.JoinedTies
import Derived.KernelRfl
namespace Go.Proofs.YtfglmfldpmpofaaDoor
/- THE CELL 'sum', in the pinned program and in every row, IS THE sha256 OF THE DUMP (.gsa) THAT YtfglmfldpmpofaaDoorProg.lean LOADS. Nothing in Lean hashes anything: it is a label: what it is worth is what the hold of that sum in a sandbox is worth. -/
noncomputable def Tryd.pinned : Pinned := { name := "ytfglmfldpmpofaadoor", sum := "8f3ce800c858e727730d128cc911cfb12ea10580bcf7e4c9f9bb5d00f4d37e52", checked := Tryd.checked }
namespace Rows
def none {H : Type} : Left H := { results := [], args := [] }

/- WHAT THE LISTED PACKAGE-LEVEL VARIABLES READ AS WHEN THE CALL BEGINS. Each datum BY PROGRAM (the guide's laid-datum.mjs) off the statement by which the dump's own 'gosem.cut.vars' lays the variable. In a bare row this is a premise. The card (YtfglmfldpmpofaaDoorCards.lean) ties it to the program's text. -/
def laid_math_bits_deBruijn32tab {H : Type} : DataW H := .agg [.lit (.int .u8 0), .lit (.int .u8 1), .lit (.int .u8 28), .lit (.int .u8 2), .lit (.int .u8 29), .lit (.int .u8 14), .lit (.int .u8 24), .lit (.int .u8 3), .lit (.int .u8 30), .lit (.int .u8 22), .lit (.int .u8 20), .lit (.int .u8 15), .lit (.int .u8 25), .lit (.int .u8 17), .lit (.int .u8 4), .lit (.int .u8 8), .lit (.int .u8 31), .lit (.int .u8 27), .lit (.int .u8 13), .lit (.int .u8 23), .lit (.int .u8 21), .lit (.int .u8 19), .lit (.int .u8 16), .lit (.int .u8 7), .lit (.int .u8 26), .lit (.int .u8 12), .lit (.int .u8 18), .lit (.int .u8 6), .lit (.int .u8 11), .lit (.int .u8 5), .lit (.int .u8 10), .lit (.int .u8 9)]
def laid_math_bits_deBruijn64tab {H : Type} : DataW H := .agg [.lit (.int .u8 0), .lit (.int .u8 1), .lit (.int .u8 56), .lit (.int .u8 2), .lit (.int .u8 57), .lit (.int .u8 49), .lit (.int .u8 28), .lit (.int .u8 3), .lit (.int .u8 61), .lit (.int .u8 58), .lit (.int .u8 42), .lit (.int .u8 50), .lit (.int .u8 38), .lit (.int .u8 29), .lit (.int .u8 17), .lit (.int .u8 4), .lit (.int .u8 62), .lit (.int .u8 47), .lit (.int .u8 59), .lit (.int .u8 36), .lit (.int .u8 45), .lit (.int .u8 43), .lit (.int .u8 51), .lit (.int .u8 22), .lit (.int .u8 53), .lit (.int .u8 39), .lit (.int .u8 33), .lit (.int .u8 30), .lit (.int .u8 24), .lit (.int .u8 18), .lit (.int .u8 12), .lit (.int .u8 5), .lit (.int .u8 63), .lit (.int .u8 55), .lit (.int .u8 48), .lit (.int .u8 27), .lit (.int .u8 60), .lit (.int .u8 41), .lit (.int .u8 37), .lit (.int .u8 16), .lit (.int .u8 46), .lit (.int .u8 35), .lit (.int .u8 44), .lit (.int .u8 21), .lit (.int .u8 52), .lit (.int .u8 32), .lit (.int .u8 23), .lit (.int .u8 11), .lit (.int .u8 54), .lit (.int .u8 26), .lit (.int .u8 40), .lit (.int .u8 15), .lit (.int .u8 34), .lit (.int .u8 20), .lit (.int .u8 31), .lit (.int .u8 10), .lit (.int .u8 25), .lit (.int .u8 14), .lit (.int .u8 19), .lit (.int .u8 9), .lit (.int .u8 13), .lit (.int .u8 8), .lit (.int .u8 7), .lit (.int .u8 6)]
def laid_internal_strconv_uint64pow10 {H : Type} : DataW H := .agg [.lit (.int .u64 1), .lit (.int .u64 10), .lit (.int .u64 100), .lit (.int .u64 1000), .lit (.int .u64 10000), .lit (.int .u64 100000), .lit (.int .u64 1000000), .lit (.int .u64 10000000), .lit (.int .u64 100000000), .lit (.int .u64 1000000000), .lit (.int .u64 10000000000), .lit (.int .u64 100000000000), .lit (.int .u64 1000000000000), .lit (.int .u64 10000000000000), .lit (.int .u64 100000000000000), .lit (.int .u64 1000000000000000), .lit (.int .u64 10000000000000000), .lit (.int .u64 100000000000000000), .lit (.int .u64 1000000000000000000), .lit (.int .u64 10000000000000000000)]

/-- 'whelklaw6.BuiltAny': WHATEVER THE INPUT: true; the input reads as it did. -/
def builtAnySpec : ChangeSpec := { name := "builtAny", fn := fun _ => fun
  | [d1, d2] => { results := [.lit (.bool true)], args := [d1, d2] }
  | _ => none }
def builtAnyRow : OpenClaim := { program := "ytfglmfldpmpofaadoor", sum := "8f3ce800c858e727730d128cc911cfb12ea10580bcf7e4c9f9bb5d00f4d37e52", func := "whelk/whelklaw6.BuiltAny", spec := "builtAny", inPlace := ["internal/abi.NoEscape"], unfollowed := true, recurses := true, named := ["internal/strconv.uint64pow10", "math/bits.deBruijn32tab", "math/bits.deBruijn64tab"], apart := false, laid := [("math/bits.deBruijn32tab", laid_math_bits_deBruijn32tab), ("math/bits.deBruijn64tab", laid_math_bits_deBruijn64tab), ("internal/strconv.uint64pow10", laid_internal_strconv_uint64pow10)] }
def BuiltAnySaid : Prop := builtAnyRow.holds Tryd.pinned (OpenSpec.ofChange builtAnySpec)

/-- ITS FALSE NEIGHBOUR: 'it returns false'. Refute it at one input. -/
def builtAnyWrong : ChangeSpec := { name := "builtAny", fn := fun _ => fun
  | [d1, d2] => { results := [.lit (.bool false)], args := [d1, d2] }
  | _ => none }
def BuiltAnyWrongFalsely : Prop := builtAnyRow.holds Tryd.pinned (OpenSpec.ofChange builtAnyWrong)

/-- 'whelklaw6.BuiltNames': WHATEVER THE INPUT: true; the input reads as it did. -/
def builtNamesSpec : ChangeSpec := { name := "builtNames", fn := fun _ => fun
  | [d] => { results := [.lit (.bool true)], args := [d] }
  | _ => none }
def builtNamesRow : OpenClaim := { program := "ytfglmfldpmpofaadoor", sum := "8f3ce800c858e727730d128cc911cfb12ea10580bcf7e4c9f9bb5d00f4d37e52", func := "whelk/whelklaw6.BuiltNames", spec := "builtNames", inPlace := ["internal/abi.NoEscape"], unfollowed := true, recurses := true, named := ["internal/strconv.uint64pow10", "math/bits.deBruijn32tab", "math/bits.deBruijn64tab"], apart := false, laid := [("math/bits.deBruijn32tab", laid_math_bits_deBruijn32tab), ("math/bits.deBruijn64tab", laid_math_bits_deBruijn64tab), ("internal/strconv.uint64pow10", laid_internal_strconv_uint64pow10)] }
def BuiltNamesSaid : Prop := builtNamesRow.holds Tryd.pinned (OpenSpec.ofChange builtNamesSpec)

/-- ITS FALSE NEIGHBOUR: 'it returns false'. Refute it at one input. -/
def builtNamesWrong : ChangeSpec := { name := "builtNames", fn := fun _ => fun
  | [d] => { results := [.lit (.bool false)], args := [d] }
  | _ => none }
def BuiltNamesWrongFalsely : Prop := builtNamesRow.holds Tryd.pinned (OpenSpec.ofChange builtNamesWrong)

/-- 'whelklaw6.BuiltChains': WHATEVER THE INPUT: true; the input reads as it did. -/
def builtChainsSpec : ChangeSpec := { name := "builtChains", fn := fun _ => fun
  | [d1, d2] => { results := [.lit (.bool true)], args := [d1, d2] }
  | _ => none }
def builtChainsRow : OpenClaim := { program := "ytfglmfldpmpofaadoor", sum := "8f3ce800c858e727730d128cc911cfb12ea10580bcf7e4c9f9bb5d00f4d37e52", func := "whelk/whelklaw6.BuiltChains", spec := "builtChains", inPlace := ["internal/abi.NoEscape"], unfollowed := true, recurses := true, named := ["internal/strconv.uint64pow10", "math/bits.deBruijn32tab", "math/bits.deBruijn64tab"], apart := false, laid := [("math/bits.deBruijn32tab", laid_math_bits_deBruijn32tab), ("math/bits.deBruijn64tab", laid_math_bits_deBruijn64tab), ("internal/strconv.uint64pow10", laid_internal_strconv_uint64pow10)] }
def BuiltChainsSaid : Prop := builtChainsRow.holds Tryd.pinned (OpenSpec.ofChange builtChainsSpec)

/-- ITS FALSE NEIGHBOUR: 'it returns false'. Refute it at one input. -/
def builtChainsWrong : ChangeSpec := { name := "builtChains", fn := fun _ => fun
  | [d1, d2] => { results := [.lit (.bool false)], args := [d1, d2] }
  | _ => none }
def BuiltChainsWrongFalsely : Prop := builtChainsRow.holds Tryd.pinned (OpenSpec.ofChange builtChainsWrong)

/-- 'whelklaw6.BuiltTypes': WHATEVER THE INPUT: true; the input reads as it did. -/
def builtTypesSpec : ChangeSpec := { name := "builtTypes", fn := fun _ => fun
  | [d1, d2, d3, d4] => { results := [.lit (.bool true)], args := [d1, d2, d3, d4] }
  | _ => none }
def builtTypesRow : OpenClaim := { program := "ytfglmfldpmpofaadoor", sum := "8f3ce800c858e727730d128cc911cfb12ea10580bcf7e4c9f9bb5d00f4d37e52", func := "whelk/whelklaw6.BuiltTypes", spec := "builtTypes", inPlace := ["internal/abi.NoEscape"], unfollowed := true, recurses := true, named := ["internal/strconv.uint64pow10", "math/bits.deBruijn32tab", "math/bits.deBruijn64tab"], apart := false, laid := [("math/bits.deBruijn32tab", laid_math_bits_deBruijn32tab), ("math/bits.deBruijn64tab", laid_math_bits_deBruijn64tab), ("internal/strconv.uint64pow10", laid_internal_strconv_uint64pow10)] }
def BuiltTypesSaid : Prop := builtTypesRow.holds Tryd.pinned (OpenSpec.ofChange builtTypesSpec)

/-- ITS FALSE NEIGHBOUR: 'it returns false'. Refute it at one input. -/
def builtTypesWrong : ChangeSpec := { name := "builtTypes", fn := fun _ => fun
  | [d1, d2, d3, d4] => { results := [.lit (.bool false)], args := [d1, d2, d3, d4] }
  | _ => none }
def BuiltTypesWrongFalsely : Prop := builtTypesRow.holds Tryd.pinned (OpenSpec.ofChange builtTypesWrong)

/-- 'whelklaw6.BuiltTexts': WHATEVER THE INPUT: true; the input reads as it did. -/
def builtTextsSpec : ChangeSpec := { name := "builtTexts", fn := fun _ => fun
  | [d] => { results := [.lit (.bool true)], args := [d] }
  | _ => none }
def builtTextsRow : OpenClaim := { program := "ytfglmfldpmpofaadoor", sum := "8f3ce800c858e727730d128cc911cfb12ea10580bcf7e4c9f9bb5d00f4d37e52", func := "whelk/whelklaw6.BuiltTexts", spec := "builtTexts", inPlace := ["internal/abi.NoEscape"], unfollowed := true, recurses := true, named := ["internal/strconv.uint64pow10", "math/bits.deBruijn32tab", "math/bits.deBruijn64tab"], apart := false, laid := [("math/bits.deBruijn32tab", laid_math_bits_deBruijn32tab), ("math/bits.deBruijn64tab", laid_math_bits_deBruijn64tab), ("internal/strconv.uint64pow10", laid_internal_strconv_uint64pow10)] }
def BuiltTextsSaid : Prop := builtTextsRow.holds Tryd.pinned (OpenSpec.ofChange builtTextsSpec)

/-- ITS FALSE NEIGHBOUR: 'it returns false'. Refute it at one input. -/
def builtTextsWrong : ChangeSpec := { name := "builtTexts", fn := fun _ => fun
  | [d] => { results := [.lit (.bool false)], args := [d] }
  | _ => none }
def BuiltTextsWrongFalsely : Prop := builtTextsRow.holds Tryd.pinned (OpenSpec.ofChange builtTextsWrong)

/-- 'whelklaw6.BuiltSames': WHATEVER THE INPUT: true; the input reads as it did. -/
def builtSamesSpec : ChangeSpec := { name := "builtSames", fn := fun _ => fun
  | [d1, d2] => { results := [.lit (.bool true)], args := [d1, d2] }
  | _ => none }
def builtSamesRow : OpenClaim := { program := "ytfglmfldpmpofaadoor", sum := "8f3ce800c858e727730d128cc911cfb12ea10580bcf7e4c9f9bb5d00f4d37e52", func := "whelk/whelklaw6.BuiltSames", spec := "builtSames", inPlace := ["internal/abi.NoEscape"], unfollowed := true, recurses := true, named := ["internal/strconv.uint64pow10", "math/bits.deBruijn32tab", "math/bits.deBruijn64tab"], apart := false, laid := [("math/bits.deBruijn32tab", laid_math_bits_deBruijn32tab), ("math/bits.deBruijn64tab", laid_math_bits_deBruijn64tab), ("internal/strconv.uint64pow10", laid_internal_strconv_uint64pow10)] }
def BuiltSamesSaid : Prop := builtSamesRow.holds Tryd.pinned (OpenSpec.ofChange builtSamesSpec)

/-- ITS FALSE NEIGHBOUR: 'it returns false'. Refute it at one input. -/
def builtSamesWrong : ChangeSpec := { name := "builtSames", fn := fun _ => fun
  | [d1, d2] => { results := [.lit (.bool false)], args := [d1, d2] }
  | _ => none }
def BuiltSamesWrongFalsely : Prop := builtSamesRow.holds Tryd.pinned (OpenSpec.ofChange builtSamesWrong)

/- THE SECOND FORM. 'bulk': how many values and letters a reading holds, each counted each time it is reached (what is shared counts as often as it is met; a slice's spare places count too). A statement '..UptoSaid' is the law's where the arguments, and the package variables that the reading takes, are together of bulk at most 1048576: NARROWER than '..Said'. Prove '..Said' where nothing that the law and all that it calls make is longer than what came in: it says more and counts as full. Else prove '..UptoSaid'. A law counts once. -/
mutual
def uptoBulk {H : Type} : DataW H → Nat
  | .lit (.string bytes) => bytes.length + 1
  | .lit _ => 1
  | .nil => 1
  | .ptr d => uptoBulk d + 1
  | .slice elems spare => uptoBulkAll elems + uptoBulkAll spare + 1
  | .agg parts => uptoBulkAll parts + 1
  | .iface _ d => uptoBulk d + 1
  | .map entries => uptoBulkEntries entries + 1
  | .held _ => 1
def uptoBulkAll {H : Type} : List (DataW H) → Nat
  | [] => 0
  | d :: r => uptoBulk d + uptoBulkAll r
def uptoBulkEntries {H : Type} : List (Lit × DataW H) → Nat
  | [] => 0
  | x :: r => uptoBulkEntry x + uptoBulkEntries r
def uptoBulkEntry {H : Type} : Lit × DataW H → Nat
  | (.string bytes, d) => bytes.length + uptoBulk d + 1
  | (_, d) => uptoBulk d + 1
 end
def uptoSmall : (H : Type) → List (DataW H) → Bool := fun _ ds => decide (uptoBulkAll ds ≤ 1048576)
def OpenSpec.upto (s : _root_.Go.ChangeSpec) : _root_.Go.OpenSpec := { _root_.Go.OpenSpec.ofChange s with cond := some uptoSmall }

/-- 'whelklaw6.BuiltAny', WHERE WHAT IT READS IS OF BULK AT MOST 1048576: true; the input reads as it did. -/
def builtAnyUptoRow : OpenClaim := { program := "ytfglmfldpmpofaadoor", sum := "8f3ce800c858e727730d128cc911cfb12ea10580bcf7e4c9f9bb5d00f4d37e52", func := "whelk/whelklaw6.BuiltAny", spec := "builtAny", inPlace := ["internal/abi.NoEscape"], unfollowed := true, recurses := true, named := ["internal/strconv.uint64pow10", "math/bits.deBruijn32tab", "math/bits.deBruijn64tab"], apart := false, laid := [("math/bits.deBruijn32tab", laid_math_bits_deBruijn32tab), ("math/bits.deBruijn64tab", laid_math_bits_deBruijn64tab), ("internal/strconv.uint64pow10", laid_internal_strconv_uint64pow10)], narrowed := true }
def BuiltAnyUptoSaid : Prop := builtAnyUptoRow.holds Tryd.pinned (OpenSpec.upto builtAnySpec)

/-- 'whelklaw6.BuiltNames', WHERE WHAT IT READS IS OF BULK AT MOST 1048576: true; the input reads as it did. -/
def builtNamesUptoRow : OpenClaim := { program := "ytfglmfldpmpofaadoor", sum := "8f3ce800c858e727730d128cc911cfb12ea10580bcf7e4c9f9bb5d00f4d37e52", func := "whelk/whelklaw6.BuiltNames", spec := "builtNames", inPlace := ["internal/abi.NoEscape"], unfollowed := true, recurses := true, named := ["internal/strconv.uint64pow10", "math/bits.deBruijn32tab", "math/bits.deBruijn64tab"], apart := false, laid := [("math/bits.deBruijn32tab", laid_math_bits_deBruijn32tab), ("math/bits.deBruijn64tab", laid_math_bits_deBruijn64tab), ("internal/strconv.uint64pow10", laid_internal_strconv_uint64pow10)], narrowed := true }
def BuiltNamesUptoSaid : Prop := builtNamesUptoRow.holds Tryd.pinned (OpenSpec.upto builtNamesSpec)

/-- 'whelklaw6.BuiltChains', WHERE WHAT IT READS IS OF BULK AT MOST 1048576: true; the input reads as it did. -/
def builtChainsUptoRow : OpenClaim := { program := "ytfglmfldpmpofaadoor", sum := "8f3ce800c858e727730d128cc911cfb12ea10580bcf7e4c9f9bb5d00f4d37e52", func := "whelk/whelklaw6.BuiltChains", spec := "builtChains", inPlace := ["internal/abi.NoEscape"], unfollowed := true, recurses := true, named := ["internal/strconv.uint64pow10", "math/bits.deBruijn32tab", "math/bits.deBruijn64tab"], apart := false, laid := [("math/bits.deBruijn32tab", laid_math_bits_deBruijn32tab), ("math/bits.deBruijn64tab", laid_math_bits_deBruijn64tab), ("internal/strconv.uint64pow10", laid_internal_strconv_uint64pow10)], narrowed := true }
def BuiltChainsUptoSaid : Prop := builtChainsUptoRow.holds Tryd.pinned (OpenSpec.upto builtChainsSpec)

/-- 'whelklaw6.BuiltTypes', WHERE WHAT IT READS IS OF BULK AT MOST 1048576: true; the input reads as it did. -/
def builtTypesUptoRow : OpenClaim := { program := "ytfglmfldpmpofaadoor", sum := "8f3ce800c858e727730d128cc911cfb12ea10580bcf7e4c9f9bb5d00f4d37e52", func := "whelk/whelklaw6.BuiltTypes", spec := "builtTypes", inPlace := ["internal/abi.NoEscape"], unfollowed := true, recurses := true, named := ["internal/strconv.uint64pow10", "math/bits.deBruijn32tab", "math/bits.deBruijn64tab"], apart := false, laid := [("math/bits.deBruijn32tab", laid_math_bits_deBruijn32tab), ("math/bits.deBruijn64tab", laid_math_bits_deBruijn64tab), ("internal/strconv.uint64pow10", laid_internal_strconv_uint64pow10)], narrowed := true }
def BuiltTypesUptoSaid : Prop := builtTypesUptoRow.holds Tryd.pinned (OpenSpec.upto builtTypesSpec)

/-- 'whelklaw6.BuiltTexts', WHERE WHAT IT READS IS OF BULK AT MOST 1048576: true; the input reads as it did. -/
def builtTextsUptoRow : OpenClaim := { program := "ytfglmfldpmpofaadoor", sum := "8f3ce800c858e727730d128cc911cfb12ea10580bcf7e4c9f9bb5d00f4d37e52", func := "whelk/whelklaw6.BuiltTexts", spec := "builtTexts", inPlace := ["internal/abi.NoEscape"], unfollowed := true, recurses := true, named := ["internal/strconv.uint64pow10", "math/bits.deBruijn32tab", "math/bits.deBruijn64tab"], apart := false, laid := [("math/bits.deBruijn32tab", laid_math_bits_deBruijn32tab), ("math/bits.deBruijn64tab", laid_math_bits_deBruijn64tab), ("internal/strconv.uint64pow10", laid_internal_strconv_uint64pow10)], narrowed := true }
def BuiltTextsUptoSaid : Prop := builtTextsUptoRow.holds Tryd.pinned (OpenSpec.upto builtTextsSpec)

/-- 'whelklaw6.BuiltSames', WHERE WHAT IT READS IS OF BULK AT MOST 1048576: true; the input reads as it did. -/
def builtSamesUptoRow : OpenClaim := { program := "ytfglmfldpmpofaadoor", sum := "8f3ce800c858e727730d128cc911cfb12ea10580bcf7e4c9f9bb5d00f4d37e52", func := "whelk/whelklaw6.BuiltSames", spec := "builtSames", inPlace := ["internal/abi.NoEscape"], unfollowed := true, recurses := true, named := ["internal/strconv.uint64pow10", "math/bits.deBruijn32tab", "math/bits.deBruijn64tab"], apart := false, laid := [("math/bits.deBruijn32tab", laid_math_bits_deBruijn32tab), ("math/bits.deBruijn64tab", laid_math_bits_deBruijn64tab), ("internal/strconv.uint64pow10", laid_internal_strconv_uint64pow10)], narrowed := true }
def BuiltSamesUptoSaid : Prop := builtSamesUptoRow.holds Tryd.pinned (OpenSpec.upto builtSamesSpec)

end Rows
end Go.Proofs.YtfglmfldpmpofaaDoor
