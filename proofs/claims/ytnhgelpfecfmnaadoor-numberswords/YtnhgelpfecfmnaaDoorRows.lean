/-
  NARROWER THAN 'FOR EVERY INPUT', by the rows' own cells (each row's printed sentence says how): NumbersAny: laid · NumbersWords: laid · NumbersFuel: laid · NumbersParts: laid · NumbersEnds: laid · NumbersTurn: laid.
  DERIVED. THE GIVEN ROWS OF THIS SEAT. 6 by the template 'for every input the law returns true; each argument reads behind the call as it read before'; 0 by the template 'total and deterministic' (their statements: YtnhgelpfecfmnaaDoorTotals.lean).
  GIVEN WITH THE SEED: the statements are not yours to turn. If you find one false, say at which input.
  Laid BY PROGRAM, IN A SANDBOX (cutbox-rows.mjs): the forced cells as the released guide's own fill.sh prints them over the translation 21f52e5ea40589bc… (all of the seat's roots in one cut). By AI agents, Wed Nov 11 2026. No macro, syntax, notation, axiom, sorry.
-/
import Derived.Test.YtnhgelpfecfmnaaDoorChecked
import GoSem.Claim
import GoSem.ClaimJoined
import GoSem.ClaimMapViews
import Derived.JoinedTies
import Derived.KernelRfl
namespace Go.Proofs.YtnhgelpfecfmnaaDoor
/- THE CELL 'sum', in the pinned program and in every row, IS THE sha256 OF THE DUMP (.gsa) THAT YtnhgelpfecfmnaaDoorProg.lean LOADS. Nothing in Lean hashes anything: it is a label: what it is worth is what the hold of that sum in a sandbox is worth. -/
noncomputable def Tryd.pinned : Pinned := { name := "ytnhgelpfecfmnaadoor", sum := "21f52e5ea40589bcac8148fd35aefd19fd881ce417eb4d40721b1b47aa47654c", checked := Tryd.checked }
namespace Rows
def none {H : Type} : Left H := { results := [], args := [] }

/- WHAT THE LISTED PACKAGE-LEVEL VARIABLES READ AS WHEN THE CALL BEGINS. Each datum BY PROGRAM (the guide's laid-datum.mjs) off the statement by which the dump's own 'gosem.cut.vars' lays the variable. In a bare row this is a premise. The card (YtnhgelpfecfmnaaDoorCards.lean) ties it to the program's text. -/
def laid_math_bits_deBruijn32tab {H : Type} : DataW H := .agg [.lit (.int .u8 0), .lit (.int .u8 1), .lit (.int .u8 28), .lit (.int .u8 2), .lit (.int .u8 29), .lit (.int .u8 14), .lit (.int .u8 24), .lit (.int .u8 3), .lit (.int .u8 30), .lit (.int .u8 22), .lit (.int .u8 20), .lit (.int .u8 15), .lit (.int .u8 25), .lit (.int .u8 17), .lit (.int .u8 4), .lit (.int .u8 8), .lit (.int .u8 31), .lit (.int .u8 27), .lit (.int .u8 13), .lit (.int .u8 23), .lit (.int .u8 21), .lit (.int .u8 19), .lit (.int .u8 16), .lit (.int .u8 7), .lit (.int .u8 26), .lit (.int .u8 12), .lit (.int .u8 18), .lit (.int .u8 6), .lit (.int .u8 11), .lit (.int .u8 5), .lit (.int .u8 10), .lit (.int .u8 9)]
def laid_math_bits_deBruijn64tab {H : Type} : DataW H := .agg [.lit (.int .u8 0), .lit (.int .u8 1), .lit (.int .u8 56), .lit (.int .u8 2), .lit (.int .u8 57), .lit (.int .u8 49), .lit (.int .u8 28), .lit (.int .u8 3), .lit (.int .u8 61), .lit (.int .u8 58), .lit (.int .u8 42), .lit (.int .u8 50), .lit (.int .u8 38), .lit (.int .u8 29), .lit (.int .u8 17), .lit (.int .u8 4), .lit (.int .u8 62), .lit (.int .u8 47), .lit (.int .u8 59), .lit (.int .u8 36), .lit (.int .u8 45), .lit (.int .u8 43), .lit (.int .u8 51), .lit (.int .u8 22), .lit (.int .u8 53), .lit (.int .u8 39), .lit (.int .u8 33), .lit (.int .u8 30), .lit (.int .u8 24), .lit (.int .u8 18), .lit (.int .u8 12), .lit (.int .u8 5), .lit (.int .u8 63), .lit (.int .u8 55), .lit (.int .u8 48), .lit (.int .u8 27), .lit (.int .u8 60), .lit (.int .u8 41), .lit (.int .u8 37), .lit (.int .u8 16), .lit (.int .u8 46), .lit (.int .u8 35), .lit (.int .u8 44), .lit (.int .u8 21), .lit (.int .u8 52), .lit (.int .u8 32), .lit (.int .u8 23), .lit (.int .u8 11), .lit (.int .u8 54), .lit (.int .u8 26), .lit (.int .u8 40), .lit (.int .u8 15), .lit (.int .u8 34), .lit (.int .u8 20), .lit (.int .u8 31), .lit (.int .u8 10), .lit (.int .u8 25), .lit (.int .u8 14), .lit (.int .u8 19), .lit (.int .u8 9), .lit (.int .u8 13), .lit (.int .u8 8), .lit (.int .u8 7), .lit (.int .u8 6)]
def laid_internal_strconv_uint64pow10 {H : Type} : DataW H := .agg [.lit (.int .u64 1), .lit (.int .u64 10), .lit (.int .u64 100), .lit (.int .u64 1000), .lit (.int .u64 10000), .lit (.int .u64 100000), .lit (.int .u64 1000000), .lit (.int .u64 10000000), .lit (.int .u64 100000000), .lit (.int .u64 1000000000), .lit (.int .u64 10000000000), .lit (.int .u64 100000000000), .lit (.int .u64 1000000000000), .lit (.int .u64 10000000000000), .lit (.int .u64 100000000000000), .lit (.int .u64 1000000000000000), .lit (.int .u64 10000000000000000), .lit (.int .u64 100000000000000000), .lit (.int .u64 1000000000000000000), .lit (.int .u64 10000000000000000000)]

/-- 'whelklaw1.NumbersAny': WHATEVER THE INPUT: true; the input reads as it did. -/
def numbersAnySpec : ChangeSpec := { name := "numbersAny", fn := fun _ => fun
  | [d1, d2] => { results := [.lit (.bool true)], args := [d1, d2] }
  | _ => none }
def numbersAnyRow : OpenClaim := { program := "ytnhgelpfecfmnaadoor", sum := "21f52e5ea40589bcac8148fd35aefd19fd881ce417eb4d40721b1b47aa47654c", func := "whelk/whelklaw1.NumbersAny", spec := "numbersAny", named := ["internal/strconv.uint64pow10", "math/bits.deBruijn32tab", "math/bits.deBruijn64tab"], apart := false, laid := [("math/bits.deBruijn32tab", laid_math_bits_deBruijn32tab), ("math/bits.deBruijn64tab", laid_math_bits_deBruijn64tab), ("internal/strconv.uint64pow10", laid_internal_strconv_uint64pow10)] }
def NumbersAnySaid : Prop := numbersAnyRow.holds Tryd.pinned (OpenSpec.ofChange numbersAnySpec)

/-- ITS FALSE NEIGHBOUR: 'it returns false'. Refute it at one input. -/
def numbersAnyWrong : ChangeSpec := { name := "numbersAny", fn := fun _ => fun
  | [d1, d2] => { results := [.lit (.bool false)], args := [d1, d2] }
  | _ => none }
def NumbersAnyWrongFalsely : Prop := numbersAnyRow.holds Tryd.pinned (OpenSpec.ofChange numbersAnyWrong)

/-- 'whelklaw1.NumbersWords': WHATEVER THE INPUT: true; the input reads as it did. -/
def numbersWordsSpec : ChangeSpec := { name := "numbersWords", fn := fun _ => fun
  | [d1, d2] => { results := [.lit (.bool true)], args := [d1, d2] }
  | _ => none }
def numbersWordsRow : OpenClaim := { program := "ytnhgelpfecfmnaadoor", sum := "21f52e5ea40589bcac8148fd35aefd19fd881ce417eb4d40721b1b47aa47654c", func := "whelk/whelklaw1.NumbersWords", spec := "numbersWords", named := ["internal/strconv.uint64pow10", "math/bits.deBruijn32tab", "math/bits.deBruijn64tab"], apart := false, laid := [("math/bits.deBruijn32tab", laid_math_bits_deBruijn32tab), ("math/bits.deBruijn64tab", laid_math_bits_deBruijn64tab), ("internal/strconv.uint64pow10", laid_internal_strconv_uint64pow10)] }
def NumbersWordsSaid : Prop := numbersWordsRow.holds Tryd.pinned (OpenSpec.ofChange numbersWordsSpec)

/-- ITS FALSE NEIGHBOUR: 'it returns false'. Refute it at one input. -/
def numbersWordsWrong : ChangeSpec := { name := "numbersWords", fn := fun _ => fun
  | [d1, d2] => { results := [.lit (.bool false)], args := [d1, d2] }
  | _ => none }
def NumbersWordsWrongFalsely : Prop := numbersWordsRow.holds Tryd.pinned (OpenSpec.ofChange numbersWordsWrong)

/-- 'whelklaw1.NumbersFuel': WHATEVER THE INPUT: true; the input reads as it did. -/
def numbersFuelSpec : ChangeSpec := { name := "numbersFuel", fn := fun _ => fun
  | [d1, d2] => { results := [.lit (.bool true)], args := [d1, d2] }
  | _ => none }
def numbersFuelRow : OpenClaim := { program := "ytnhgelpfecfmnaadoor", sum := "21f52e5ea40589bcac8148fd35aefd19fd881ce417eb4d40721b1b47aa47654c", func := "whelk/whelklaw1.NumbersFuel", spec := "numbersFuel", named := ["internal/strconv.uint64pow10", "math/bits.deBruijn32tab", "math/bits.deBruijn64tab"], apart := false, laid := [("math/bits.deBruijn32tab", laid_math_bits_deBruijn32tab), ("math/bits.deBruijn64tab", laid_math_bits_deBruijn64tab), ("internal/strconv.uint64pow10", laid_internal_strconv_uint64pow10)] }
def NumbersFuelSaid : Prop := numbersFuelRow.holds Tryd.pinned (OpenSpec.ofChange numbersFuelSpec)

/-- ITS FALSE NEIGHBOUR: 'it returns false'. Refute it at one input. -/
def numbersFuelWrong : ChangeSpec := { name := "numbersFuel", fn := fun _ => fun
  | [d1, d2] => { results := [.lit (.bool false)], args := [d1, d2] }
  | _ => none }
def NumbersFuelWrongFalsely : Prop := numbersFuelRow.holds Tryd.pinned (OpenSpec.ofChange numbersFuelWrong)

/-- 'whelklaw1.NumbersParts': WHATEVER THE INPUT: true; the input reads as it did. -/
def numbersPartsSpec : ChangeSpec := { name := "numbersParts", fn := fun _ => fun
  | [d1, d2] => { results := [.lit (.bool true)], args := [d1, d2] }
  | _ => none }
def numbersPartsRow : OpenClaim := { program := "ytnhgelpfecfmnaadoor", sum := "21f52e5ea40589bcac8148fd35aefd19fd881ce417eb4d40721b1b47aa47654c", func := "whelk/whelklaw1.NumbersParts", spec := "numbersParts", named := ["internal/strconv.uint64pow10", "math/bits.deBruijn32tab", "math/bits.deBruijn64tab"], apart := false, laid := [("math/bits.deBruijn32tab", laid_math_bits_deBruijn32tab), ("math/bits.deBruijn64tab", laid_math_bits_deBruijn64tab), ("internal/strconv.uint64pow10", laid_internal_strconv_uint64pow10)] }
def NumbersPartsSaid : Prop := numbersPartsRow.holds Tryd.pinned (OpenSpec.ofChange numbersPartsSpec)

/-- ITS FALSE NEIGHBOUR: 'it returns false'. Refute it at one input. -/
def numbersPartsWrong : ChangeSpec := { name := "numbersParts", fn := fun _ => fun
  | [d1, d2] => { results := [.lit (.bool false)], args := [d1, d2] }
  | _ => none }
def NumbersPartsWrongFalsely : Prop := numbersPartsRow.holds Tryd.pinned (OpenSpec.ofChange numbersPartsWrong)

/-- 'whelklaw1.NumbersEnds': WHATEVER THE INPUT: true; the input reads as it did. -/
def numbersEndsSpec : ChangeSpec := { name := "numbersEnds", fn := fun _ => fun
  | [d] => { results := [.lit (.bool true)], args := [d] }
  | _ => none }
def numbersEndsRow : OpenClaim := { program := "ytnhgelpfecfmnaadoor", sum := "21f52e5ea40589bcac8148fd35aefd19fd881ce417eb4d40721b1b47aa47654c", func := "whelk/whelklaw1.NumbersEnds", spec := "numbersEnds", named := ["internal/strconv.uint64pow10", "math/bits.deBruijn32tab", "math/bits.deBruijn64tab"], apart := false, laid := [("math/bits.deBruijn32tab", laid_math_bits_deBruijn32tab), ("math/bits.deBruijn64tab", laid_math_bits_deBruijn64tab), ("internal/strconv.uint64pow10", laid_internal_strconv_uint64pow10)] }
def NumbersEndsSaid : Prop := numbersEndsRow.holds Tryd.pinned (OpenSpec.ofChange numbersEndsSpec)

/-- ITS FALSE NEIGHBOUR: 'it returns false'. Refute it at one input. -/
def numbersEndsWrong : ChangeSpec := { name := "numbersEnds", fn := fun _ => fun
  | [d] => { results := [.lit (.bool false)], args := [d] }
  | _ => none }
def NumbersEndsWrongFalsely : Prop := numbersEndsRow.holds Tryd.pinned (OpenSpec.ofChange numbersEndsWrong)

/-- 'whelklaw1.NumbersTurn': WHATEVER THE INPUT: true; the input reads as it did. -/
def numbersTurnSpec : ChangeSpec := { name := "numbersTurn", fn := fun _ => fun
  | [d1, d2] => { results := [.lit (.bool true)], args := [d1, d2] }
  | _ => none }
def numbersTurnRow : OpenClaim := { program := "ytnhgelpfecfmnaadoor", sum := "21f52e5ea40589bcac8148fd35aefd19fd881ce417eb4d40721b1b47aa47654c", func := "whelk/whelklaw1.NumbersTurn", spec := "numbersTurn", named := ["internal/strconv.uint64pow10", "math/bits.deBruijn32tab", "math/bits.deBruijn64tab"], apart := false, laid := [("math/bits.deBruijn32tab", laid_math_bits_deBruijn32tab), ("math/bits.deBruijn64tab", laid_math_bits_deBruijn64tab), ("internal/strconv.uint64pow10", laid_internal_strconv_uint64pow10)] }
def NumbersTurnSaid : Prop := numbersTurnRow.holds Tryd.pinned (OpenSpec.ofChange numbersTurnSpec)

/-- ITS FALSE NEIGHBOUR: 'it returns false'. Refute it at one input. -/
def numbersTurnWrong : ChangeSpec := { name := "numbersTurn", fn := fun _ => fun
  | [d1, d2] => { results := [.lit (.bool false)], args := [d1, d2] }
  | _ => none }
def NumbersTurnWrongFalsely : Prop := numbersTurnRow.holds Tryd.pinned (OpenSpec.ofChange numbersTurnWrong)

/- THE SECOND FORM. 'bulk': how many values and letters a reading holds, each counted each time it is reached (what is shared counts as often as it is met; a slice's spare places count too). A statement '..UptoSaid' is the law's where the arguments, and the package variables that the reading takes, are together of bulk at most 1048576: NARROWER than '..Said'. Prove '..Said' where nothing that the law and all that it calls make is longer than what came in: it says more and counts as full. Else prove '..UptoSaid'. A law counts once. -/
mutual
def uptoBulk {H : Type} : DataW H → Nat
  | .lit (.string bytes) => bytes.length + 1
  | .lit _ => 1
  | .nil => 1
  | .ptr d => uptoBulk d + 1
  | .slice elems spare => uptoBulkAll elems + uptoBulkAll spare + 1
  | .agg parts => uptoBulkAll parts + 1
  | .iface _ d => uptoBulk d + 1
  | .map entries => uptoBulkEntries entries + 1
  | .held _ => 1
def uptoBulkAll {H : Type} : List (DataW H) → Nat
  | [] => 0
  | d :: r => uptoBulk d + uptoBulkAll r
def uptoBulkEntries {H : Type} : List (Lit × DataW H) → Nat
  | [] => 0
  | x :: r => uptoBulkEntry x + uptoBulkEntries r
def uptoBulkEntry {H : Type} : Lit × DataW H → Nat
  | (.string bytes, d) => bytes.length + uptoBulk d + 1
  | (_, d) => uptoBulk d + 1
 end
def uptoSmall : (H : Type) → List (DataW H) → Bool := fun _ ds => decide (uptoBulkAll ds ≤ 1048576)
def OpenSpec.upto (s : _root_.Go.ChangeSpec) : _root_.Go.OpenSpec := { _root_.Go.OpenSpec.ofChange s with cond := some uptoSmall }

/-- 'whelklaw1.NumbersAny', WHERE WHAT IT READS IS OF BULK AT MOST 1048576: true; the input reads as it did. -/
def numbersAnyUptoRow : OpenClaim := { program := "ytnhgelpfecfmnaadoor", sum := "21f52e5ea40589bcac8148fd35aefd19fd881ce417eb4d40721b1b47aa47654c", func := "whelk/whelklaw1.NumbersAny", spec := "numbersAny", named := ["internal/strconv.uint64pow10", "math/bits.deBruijn32tab", "math/bits.deBruijn64tab"], apart := false, laid := [("math/bits.deBruijn32tab", laid_math_bits_deBruijn32tab), ("math/bits.deBruijn64tab", laid_math_bits_deBruijn64tab), ("internal/strconv.uint64pow10", laid_internal_strconv_uint64pow10)], narrowed := true }
def NumbersAnyUptoSaid : Prop := numbersAnyUptoRow.holds Tryd.pinned (OpenSpec.upto numbersAnySpec)

/-- 'whelklaw1.NumbersWords', WHERE WHAT IT READS IS OF BULK AT MOST 1048576: true; the input reads as it did. -/
def numbersWordsUptoRow : OpenClaim := { program := "ytnhgelpfecfmnaadoor", sum := "21f52e5ea40589bcac8148fd35aefd19fd881ce417eb4d40721b1b47aa47654c", func := "whelk/whelklaw1.NumbersWords", spec := "numbersWords", named := ["internal/strconv.uint64pow10", "math/bits.deBruijn32tab", "math/bits.deBruijn64tab"], apart := false, laid := [("math/bits.deBruijn32tab", laid_math_bits_deBruijn32tab), ("math/bits.deBruijn64tab", laid_math_bits_deBruijn64tab), ("internal/strconv.uint64pow10", laid_internal_strconv_uint64pow10)], narrowed := true }
def NumbersWordsUptoSaid : Prop := numbersWordsUptoRow.holds Tryd.pinned (OpenSpec.upto numbersWordsSpec)

/-- 'whelklaw1.NumbersFuel', WHERE WHAT IT READS IS OF BULK AT MOST 1048576: true; the input reads as it did. -/
def numbersFuelUptoRow : OpenClaim := { program := "ytnhgelpfecfmnaadoor", sum := "21f52e5ea40589bcac8148fd35aefd19fd881ce417eb4d40721b1b47aa47654c", func := "whelk/whelklaw1.NumbersFuel", spec := "numbersFuel", named := ["internal/strconv.uint64pow10", "math/bits.deBruijn32tab", "math/bits.deBruijn64tab"], apart := false, laid := [("math/bits.deBruijn32tab", laid_math_bits_deBruijn32tab), ("math/bits.deBruijn64tab", laid_math_bits_deBruijn64tab), ("internal/strconv.uint64pow10", laid_internal_strconv_uint64pow10)], narrowed := true }
def NumbersFuelUptoSaid : Prop := numbersFuelUptoRow.holds Tryd.pinned (OpenSpec.upto numbersFuelSpec)

/-- 'whelklaw1.NumbersParts', WHERE WHAT IT READS IS OF BULK AT MOST 1048576: true; the input reads as it did. -/
def numbersPartsUptoRow : OpenClaim := { program := "ytnhgelpfecfmnaadoor", sum := "21f52e5ea40589bcac8148fd35aefd19fd881ce417eb4d40721b1b47aa47654c", func := "whelk/whelklaw1.NumbersParts", spec := "numbersParts", named := ["internal/strconv.uint64pow10", "math/bits.deBruijn32tab", "math/bits.deBruijn64tab"], apart := false, laid := [("math/bits.deBruijn32tab", laid_math_bits_deBruijn32tab), ("math/bits.deBruijn64tab", laid_math_bits_deBruijn64tab), ("internal/strconv.uint64pow10", laid_internal_strconv_uint64pow10)], narrowed := true }
def NumbersPartsUptoSaid : Prop := numbersPartsUptoRow.holds Tryd.pinned (OpenSpec.upto numbersPartsSpec)

/-- 'whelklaw1.NumbersEnds', WHERE WHAT IT READS IS OF BULK AT MOST 1048576: true; the input reads as it did. -/
def numbersEndsUptoRow : OpenClaim := { program := "ytnhgelpfecfmnaadoor", sum := "21f52e5ea40589bcac8148fd35aefd19fd881ce417eb4d40721b1b47aa47654c", func := "whelk/whelklaw1.NumbersEnds", spec := "numbersEnds", named := ["internal/strconv.uint64pow10", "math/bits.deBruijn32tab", "math/bits.deBruijn64tab"], apart := false, laid := [("math/bits.deBruijn32tab", laid_math_bits_deBruijn32tab), ("math/bits.deBruijn64tab", laid_math_bits_deBruijn64tab), ("internal/strconv.uint64pow10", laid_internal_strconv_uint64pow10)], narrowed := true }
def NumbersEndsUptoSaid : Prop := numbersEndsUptoRow.holds Tryd.pinned (OpenSpec.upto numbersEndsSpec)

/-- 'whelklaw1.NumbersTurn', WHERE WHAT IT READS IS OF BULK AT MOST 1048576: true; the input reads as it did. -/
def numbersTurnUptoRow : OpenClaim := { program := "ytnhgelpfecfmnaadoor", sum := "21f52e5ea40589bcac8148fd35aefd19fd881ce417eb4d40721b1b47aa47654c", func := "whelk/whelklaw1.NumbersTurn", spec := "numbersTurn", named := ["internal/strconv.uint64pow10", "math/bits.deBruijn32tab", "math/bits.deBruijn64tab"], apart := false, laid := [("math/bits.deBruijn32tab", laid_math_bits_deBruijn32tab), ("math/bits.deBruijn64tab", laid_math_bits_deBruijn64tab), ("internal/strconv.uint64pow10", laid_internal_strconv_uint64pow10)], narrowed := true }
def NumbersTurnUptoSaid : Prop := numbersTurnUptoRow.holds Tryd.pinned (OpenSpec.upto numbersTurnSpec)

end Rows
end Go.Proofs.YtnhgelpfecfmnaaDoor
