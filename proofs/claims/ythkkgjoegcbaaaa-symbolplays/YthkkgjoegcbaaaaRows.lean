/-
  No cell of these rows narrows 'for every input' (looked for: loops, veiled, ifaces, maps, wideKeys, modest, calm, conditions, laid).
  DERIVED. THE GIVEN ROWS OF THIS SEAT. 3 by the template 'for every input the law returns true; each argument reads behind the call as it read before'; 0 by the template 'total and deterministic' (their statements: YthkkgjoegcbaaaaTotals.lean).
  GIVEN WITH THE SEED: the statements are not yours to turn. If you find one false, say at which input.
  Laid BY PROGRAM, IN A SANDBOX (cutbox-rows.mjs): the forced cells as the released guide's own fill.sh prints them over the translation 23711ba32886f1df… (all of the seat's roots in one cut). By AI agents, Wed Nov 11 2026. No macro, syntax, notation, axiom, sorry.
-/
import Derived.Test.YthkkgjoegcbaaaaChecked
import GoSem.Claim
import GoSem.ClaimJoined
import GoSem.ClaimMapViews
import Derived.JoinedTies
import Derived.KernelRfl
namespace Go.Proofs.Ythkkgjoegcbaaaa
/- THE CELL 'sum', in the pinned program and in every row, IS THE sha256 OF THE DUMP (.gsa) THAT YthkkgjoegcbaaaaProg.lean LOADS. Nothing in Lean hashes anything: it is a label: what it is worth is what the hold of that sum in a sandbox is worth. -/
noncomputable def Try.pinned : Pinned := { name := "ythkkgjoegcbaaaa", sum := "23711ba32886f1dff1047a28425bded06b741e515577c2610cc3b357086390b5", checked := Try.checked }
namespace Rows
def none {H : Type} : Left H := { results := [], args := [] }

/-- 'whelklaw2.SymbolPlays': WHATEVER THE INPUT: true; the input reads as it did. -/
def symbolPlaysSpec : ChangeSpec := { name := "symbolPlays", fn := fun _ => fun
  | [d1, d2] => { results := [.lit (.bool true)], args := [d1, d2] }
  | _ => none }
def symbolPlaysRow : OpenClaim := { program := "ythkkgjoegcbaaaa", sum := "23711ba32886f1dff1047a28425bded06b741e515577c2610cc3b357086390b5", func := "whelk/whelklaw2.SymbolPlays", spec := "symbolPlays", apart := false }
def SymbolPlaysSaid : Prop := symbolPlaysRow.holds Try.pinned (OpenSpec.ofChange symbolPlaysSpec)

/-- ITS FALSE NEIGHBOUR: 'it returns false'. Refute it at one input. -/
def symbolPlaysWrong : ChangeSpec := { name := "symbolPlays", fn := fun _ => fun
  | [d1, d2] => { results := [.lit (.bool false)], args := [d1, d2] }
  | _ => none }
def SymbolPlaysWrongFalsely : Prop := symbolPlaysRow.holds Try.pinned (OpenSpec.ofChange symbolPlaysWrong)

/-- 'whelklaw2.SymbolFull': WHATEVER THE INPUT: true; the input reads as it did. -/
def symbolFullSpec : ChangeSpec := { name := "symbolFull", fn := fun _ => fun
  | [d] => { results := [.lit (.bool true)], args := [d] }
  | _ => none }
def symbolFullRow : OpenClaim := { program := "ythkkgjoegcbaaaa", sum := "23711ba32886f1dff1047a28425bded06b741e515577c2610cc3b357086390b5", func := "whelk/whelklaw2.SymbolFull", spec := "symbolFull", apart := false }
def SymbolFullSaid : Prop := symbolFullRow.holds Try.pinned (OpenSpec.ofChange symbolFullSpec)

/-- ITS FALSE NEIGHBOUR: 'it returns false'. Refute it at one input. -/
def symbolFullWrong : ChangeSpec := { name := "symbolFull", fn := fun _ => fun
  | [d] => { results := [.lit (.bool false)], args := [d] }
  | _ => none }
def SymbolFullWrongFalsely : Prop := symbolFullRow.holds Try.pinned (OpenSpec.ofChange symbolFullWrong)

/-- 'whelklaw2.SymbolGood': WHATEVER THE INPUT: true; the input reads as it did. -/
def symbolGoodSpec : ChangeSpec := { name := "symbolGood", fn := fun _ => fun
  | [d] => { results := [.lit (.bool true)], args := [d] }
  | _ => none }
def symbolGoodRow : OpenClaim := { program := "ythkkgjoegcbaaaa", sum := "23711ba32886f1dff1047a28425bded06b741e515577c2610cc3b357086390b5", func := "whelk/whelklaw2.SymbolGood", spec := "symbolGood", apart := false }
def SymbolGoodSaid : Prop := symbolGoodRow.holds Try.pinned (OpenSpec.ofChange symbolGoodSpec)

/-- ITS FALSE NEIGHBOUR: 'it returns false'. Refute it at one input. -/
def symbolGoodWrong : ChangeSpec := { name := "symbolGood", fn := fun _ => fun
  | [d] => { results := [.lit (.bool false)], args := [d] }
  | _ => none }
def SymbolGoodWrongFalsely : Prop := symbolGoodRow.holds Try.pinned (OpenSpec.ofChange symbolGoodWrong)

/- THE SECOND FORM. 'bulk': how many values and letters a reading holds, each counted each time it is reached (what is shared counts as often as it is met; a slice's spare places count too). A statement '..UptoSaid' is the law's where the arguments, and the package variables that the reading takes, are together of bulk at most 1048576: NARROWER than '..Said'. Prove '..Said' where nothing that the law and all that it calls make is longer than what came in: it says more and counts as full. Else prove '..UptoSaid'. A law counts once. -/
mutual
def uptoBulk {H : Type} : DataW H → Nat
  | .lit (.string bytes) => bytes.length + 1
  | .lit _ => 1
  | .nil => 1
  | .ptr d => uptoBulk d + 1
  | .slice elems spare => uptoBulkAll elems + uptoBulkAll spare + 1
  | .agg parts => uptoBulkAll parts + 1
  | .iface _ d => uptoBulk d + 1
  | .map entries => uptoBulkEntries entries + 1
  | .held _ => 1
def uptoBulkAll {H : Type} : List (DataW H) → Nat
  | [] => 0
  | d :: r => uptoBulk d + uptoBulkAll r
def uptoBulkEntries {H : Type} : List (Lit × DataW H) → Nat
  | [] => 0
  | x :: r => uptoBulkEntry x + uptoBulkEntries r
def uptoBulkEntry {H : Type} : Lit × DataW H → Nat
  | (.string bytes, d) => bytes.length + uptoBulk d + 1
  | (_, d) => uptoBulk d + 1
 end
def uptoSmall : (H : Type) → List (DataW H) → Bool := fun _ ds => decide (uptoBulkAll ds ≤ 1048576)
def OpenSpec.upto (s : _root_.Go.ChangeSpec) : _root_.Go.OpenSpec := { _root_.Go.OpenSpec.ofChange s with cond := some uptoSmall }

/-- 'whelklaw2.SymbolPlays', WHERE WHAT IT READS IS OF BULK AT MOST 1048576: true; the input reads as it did. -/
def symbolPlaysUptoRow : OpenClaim := { program := "ythkkgjoegcbaaaa", sum := "23711ba32886f1dff1047a28425bded06b741e515577c2610cc3b357086390b5", func := "whelk/whelklaw2.SymbolPlays", spec := "symbolPlays", apart := false, narrowed := true }
def SymbolPlaysUptoSaid : Prop := symbolPlaysUptoRow.holds Try.pinned (OpenSpec.upto symbolPlaysSpec)

/-- 'whelklaw2.SymbolFull', WHERE WHAT IT READS IS OF BULK AT MOST 1048576: true; the input reads as it did. -/
def symbolFullUptoRow : OpenClaim := { program := "ythkkgjoegcbaaaa", sum := "23711ba32886f1dff1047a28425bded06b741e515577c2610cc3b357086390b5", func := "whelk/whelklaw2.SymbolFull", spec := "symbolFull", apart := false, narrowed := true }
def SymbolFullUptoSaid : Prop := symbolFullUptoRow.holds Try.pinned (OpenSpec.upto symbolFullSpec)

/-- 'whelklaw2.SymbolGood', WHERE WHAT IT READS IS OF BULK AT MOST 1048576: true; the input reads as it did. -/
def symbolGoodUptoRow : OpenClaim := { program := "ythkkgjoegcbaaaa", sum := "23711ba32886f1dff1047a28425bded06b741e515577c2610cc3b357086390b5", func := "whelk/whelklaw2.SymbolGood", spec := "symbolGood", apart := false, narrowed := true }
def SymbolGoodUptoSaid : Prop := symbolGoodUptoRow.holds Try.pinned (OpenSpec.upto symbolGoodSpec)

end Rows
end Go.Proofs.Ythkkgjoegcbaaaa
