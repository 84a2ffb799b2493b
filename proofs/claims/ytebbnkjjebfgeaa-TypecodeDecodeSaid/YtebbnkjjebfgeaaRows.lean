/-
  No cell of these rows narrows 'for every input' (looked for: loops, veiled, ifaces, maps, wideKeys, modest, calm, conditions, laid).
  DERIVED. THE GIVEN ROWS OF THIS SEAT. 5 by the template 'for every input the law returns true; each argument reads behind the call as it read before'; 0 by the template 'total and deterministic' (their statements: YtebbnkjjebfgeaaTotals.lean).
  GIVEN WITH THE SEED: the statements are not yours to turn. If you find one false, say at which input.
  Laid BY PROGRAM, IN A SANDBOX (cutbox-rows.mjs): the forced cells as the released guide's own fill.sh prints them over the translation 3546f80d87d40baa… (all of the seat's roots in one cut). By AI agents, Wed Nov 11 2026. No macro, syntax, notation, axiom, sorry.
-/
import Derived.Test.YtebbnkjjebfgeaaChecked
import GoSem.Claim
import GoSem.ClaimJoined
import GoSem.ClaimMapViews
import Derived.JoinedTies
import Derived.KernelRfl
namespace Go.Proofs.Ytebbnkjjebfgeaa
/- THE CELL 'sum', in the pinned program and in every row, IS THE sha256 OF THE DUMP (.gsa) THAT YtebbnkjjebfgeaaProg.lean LOADS. Nothing in Lean hashes anything: it is a label: what it is worth is what the hold of that sum in a sandbox is worth. -/
noncomputable def Try.pinned : Pinned := { name := "ytebbnkjjebfgeaa", sum := "3546f80d87d40baa6df0a9f240161352be2f4aa96a72168f01dfe4147b7609ab", checked := Try.checked }
namespace Rows
def none {H : Type} : Left H := { results := [], args := [] }

/-- 'pluginhostlaw9.TypecodeEncode': WHATEVER THE INPUT: true; the input reads as it did. -/
def typecodeEncodeSpec : ChangeSpec := { name := "typecodeEncode", fn := fun _ => fun
  | [d1, d2] => { results := [.lit (.bool true)], args := [d1, d2] }
  | _ => none }
def typecodeEncodeRow : OpenClaim := { program := "ytebbnkjjebfgeaa", sum := "3546f80d87d40baa6df0a9f240161352be2f4aa96a72168f01dfe4147b7609ab", func := "pluginhost/pluginhostlaw9.TypecodeEncode", spec := "typecodeEncode", apart := false }
def TypecodeEncodeSaid : Prop := typecodeEncodeRow.holds Try.pinned (OpenSpec.ofChange typecodeEncodeSpec)

/-- ITS FALSE NEIGHBOUR: 'it returns false'. Refute it at one input. -/
def typecodeEncodeWrong : ChangeSpec := { name := "typecodeEncode", fn := fun _ => fun
  | [d1, d2] => { results := [.lit (.bool false)], args := [d1, d2] }
  | _ => none }
def TypecodeEncodeWrongFalsely : Prop := typecodeEncodeRow.holds Try.pinned (OpenSpec.ofChange typecodeEncodeWrong)

/-- 'pluginhostlaw9.TypecodeDecode': WHATEVER THE INPUT: true; the input reads as it did. -/
def typecodeDecodeSpec : ChangeSpec := { name := "typecodeDecode", fn := fun _ => fun
  | [d1, d2, d3, d4, d5] => { results := [.lit (.bool true)], args := [d1, d2, d3, d4, d5] }
  | _ => none }
def typecodeDecodeRow : OpenClaim := { program := "ytebbnkjjebfgeaa", sum := "3546f80d87d40baa6df0a9f240161352be2f4aa96a72168f01dfe4147b7609ab", func := "pluginhost/pluginhostlaw9.TypecodeDecode", spec := "typecodeDecode", apart := false }
def TypecodeDecodeSaid : Prop := typecodeDecodeRow.holds Try.pinned (OpenSpec.ofChange typecodeDecodeSpec)

/-- ITS FALSE NEIGHBOUR: 'it returns false'. Refute it at one input. -/
def typecodeDecodeWrong : ChangeSpec := { name := "typecodeDecode", fn := fun _ => fun
  | [d1, d2, d3, d4, d5] => { results := [.lit (.bool false)], args := [d1, d2, d3, d4, d5] }
  | _ => none }
def TypecodeDecodeWrongFalsely : Prop := typecodeDecodeRow.holds Try.pinned (OpenSpec.ofChange typecodeDecodeWrong)

/-- 'pluginhostlaw9.TypecodeNumbers': WHATEVER THE INPUT: true; the input reads as it did. -/
def typecodeNumbersSpec : ChangeSpec := { name := "typecodeNumbers", fn := fun _ => fun
  | [d1, d2] => { results := [.lit (.bool true)], args := [d1, d2] }
  | _ => none }
def typecodeNumbersRow : OpenClaim := { program := "ytebbnkjjebfgeaa", sum := "3546f80d87d40baa6df0a9f240161352be2f4aa96a72168f01dfe4147b7609ab", func := "pluginhost/pluginhostlaw9.TypecodeNumbers", spec := "typecodeNumbers", apart := false }
def TypecodeNumbersSaid : Prop := typecodeNumbersRow.holds Try.pinned (OpenSpec.ofChange typecodeNumbersSpec)

/-- ITS FALSE NEIGHBOUR: 'it returns false'. Refute it at one input. -/
def typecodeNumbersWrong : ChangeSpec := { name := "typecodeNumbers", fn := fun _ => fun
  | [d1, d2] => { results := [.lit (.bool false)], args := [d1, d2] }
  | _ => none }
def TypecodeNumbersWrongFalsely : Prop := typecodeNumbersRow.holds Try.pinned (OpenSpec.ofChange typecodeNumbersWrong)

/-- 'pluginhostlaw9.TypecodeBack': WHATEVER THE INPUT: true; the input reads as it did. -/
def typecodeBackSpec : ChangeSpec := { name := "typecodeBack", fn := fun _ => fun
  | [d1, d2] => { results := [.lit (.bool true)], args := [d1, d2] }
  | _ => none }
def typecodeBackRow : OpenClaim := { program := "ytebbnkjjebfgeaa", sum := "3546f80d87d40baa6df0a9f240161352be2f4aa96a72168f01dfe4147b7609ab", func := "pluginhost/pluginhostlaw9.TypecodeBack", spec := "typecodeBack", apart := false }
def TypecodeBackSaid : Prop := typecodeBackRow.holds Try.pinned (OpenSpec.ofChange typecodeBackSpec)

/-- ITS FALSE NEIGHBOUR: 'it returns false'. Refute it at one input. -/
def typecodeBackWrong : ChangeSpec := { name := "typecodeBack", fn := fun _ => fun
  | [d1, d2] => { results := [.lit (.bool false)], args := [d1, d2] }
  | _ => none }
def TypecodeBackWrongFalsely : Prop := typecodeBackRow.holds Try.pinned (OpenSpec.ofChange typecodeBackWrong)

/-- 'pluginhostlaw9.TypecodeOnly': WHATEVER THE INPUT: true; the input reads as it did. -/
def typecodeOnlySpec : ChangeSpec := { name := "typecodeOnly", fn := fun _ => fun
  | [d] => { results := [.lit (.bool true)], args := [d] }
  | _ => none }
def typecodeOnlyRow : OpenClaim := { program := "ytebbnkjjebfgeaa", sum := "3546f80d87d40baa6df0a9f240161352be2f4aa96a72168f01dfe4147b7609ab", func := "pluginhost/pluginhostlaw9.TypecodeOnly", spec := "typecodeOnly", apart := false }
def TypecodeOnlySaid : Prop := typecodeOnlyRow.holds Try.pinned (OpenSpec.ofChange typecodeOnlySpec)

/-- ITS FALSE NEIGHBOUR: 'it returns false'. Refute it at one input. -/
def typecodeOnlyWrong : ChangeSpec := { name := "typecodeOnly", fn := fun _ => fun
  | [d] => { results := [.lit (.bool false)], args := [d] }
  | _ => none }
def TypecodeOnlyWrongFalsely : Prop := typecodeOnlyRow.holds Try.pinned (OpenSpec.ofChange typecodeOnlyWrong)

/- THE SECOND FORM. 'bulk': how many values and letters a reading holds, each counted each time it is reached (what is shared counts as often as it is met; a slice's spare places count too). A statement '..UptoSaid' is the law's where the arguments, and the package variables that the reading takes, are together of bulk at most 1048576: NARROWER than '..Said'. Prove '..Said' where nothing that the law and all that it calls make is longer than what came in: it says more and counts as full. Else prove '..UptoSaid'. A law counts once. -/
mutual
def uptoBulk {H : Type} : DataW H → Nat
  | .lit (.string bytes) => bytes.length + 1
  | .lit _ => 1
  | .nil => 1
  | .ptr d => uptoBulk d + 1
  | .slice elems spare => uptoBulkAll elems + uptoBulkAll spare + 1
  | .agg parts => uptoBulkAll parts + 1
  | .iface _ d => uptoBulk d + 1
  | .map entries => uptoBulkEntries entries + 1
  | .held _ => 1
def uptoBulkAll {H : Type} : List (DataW H) → Nat
  | [] => 0
  | d :: r => uptoBulk d + uptoBulkAll r
def uptoBulkEntries {H : Type} : List (Lit × DataW H) → Nat
  | [] => 0
  | x :: r => uptoBulkEntry x + uptoBulkEntries r
def uptoBulkEntry {H : Type} : Lit × DataW H → Nat
  | (.string bytes, d) => bytes.length + uptoBulk d + 1
  | (_, d) => uptoBulk d + 1
 end
def uptoSmall : (H : Type) → List (DataW H) → Bool := fun _ ds => decide (uptoBulkAll ds ≤ 1048576)
def OpenSpec.upto (s : _root_.Go.ChangeSpec) : _root_.Go.OpenSpec := { _root_.Go.OpenSpec.ofChange s with cond := some uptoSmall }

/-- 'pluginhostlaw9.TypecodeEncode', WHERE WHAT IT READS IS OF BULK AT MOST 1048576: true; the input reads as it did. -/
def typecodeEncodeUptoRow : OpenClaim := { program := "ytebbnkjjebfgeaa", sum := "3546f80d87d40baa6df0a9f240161352be2f4aa96a72168f01dfe4147b7609ab", func := "pluginhost/pluginhostlaw9.TypecodeEncode", spec := "typecodeEncode", apart := false, narrowed := true }
def TypecodeEncodeUptoSaid : Prop := typecodeEncodeUptoRow.holds Try.pinned (OpenSpec.upto typecodeEncodeSpec)

/-- 'pluginhostlaw9.TypecodeDecode', WHERE WHAT IT READS IS OF BULK AT MOST 1048576: true; the input reads as it did. -/
def typecodeDecodeUptoRow : OpenClaim := { program := "ytebbnkjjebfgeaa", sum := "3546f80d87d40baa6df0a9f240161352be2f4aa96a72168f01dfe4147b7609ab", func := "pluginhost/pluginhostlaw9.TypecodeDecode", spec := "typecodeDecode", apart := false, narrowed := true }
def TypecodeDecodeUptoSaid : Prop := typecodeDecodeUptoRow.holds Try.pinned (OpenSpec.upto typecodeDecodeSpec)

/-- 'pluginhostlaw9.TypecodeNumbers', WHERE WHAT IT READS IS OF BULK AT MOST 1048576: true; the input reads as it did. -/
def typecodeNumbersUptoRow : OpenClaim := { program := "ytebbnkjjebfgeaa", sum := "3546f80d87d40baa6df0a9f240161352be2f4aa96a72168f01dfe4147b7609ab", func := "pluginhost/pluginhostlaw9.TypecodeNumbers", spec := "typecodeNumbers", apart := false, narrowed := true }
def TypecodeNumbersUptoSaid : Prop := typecodeNumbersUptoRow.holds Try.pinned (OpenSpec.upto typecodeNumbersSpec)

/-- 'pluginhostlaw9.TypecodeBack', WHERE WHAT IT READS IS OF BULK AT MOST 1048576: true; the input reads as it did. -/
def typecodeBackUptoRow : OpenClaim := { program := "ytebbnkjjebfgeaa", sum := "3546f80d87d40baa6df0a9f240161352be2f4aa96a72168f01dfe4147b7609ab", func := "pluginhost/pluginhostlaw9.TypecodeBack", spec := "typecodeBack", apart := false, narrowed := true }
def TypecodeBackUptoSaid : Prop := typecodeBackUptoRow.holds Try.pinned (OpenSpec.upto typecodeBackSpec)

/-- 'pluginhostlaw9.TypecodeOnly', WHERE WHAT IT READS IS OF BULK AT MOST 1048576: true; the input reads as it did. -/
def typecodeOnlyUptoRow : OpenClaim := { program := "ytebbnkjjebfgeaa", sum := "3546f80d87d40baa6df0a9f240161352be2f4aa96a72168f01dfe4147b7609ab", func := "pluginhost/pluginhostlaw9.TypecodeOnly", spec := "typecodeOnly", apart := false, narrowed := true }
def TypecodeOnlyUptoSaid : Prop := typecodeOnlyUptoRow.holds Try.pinned (OpenSpec.upto typecodeOnlySpec)

end Rows
end Go.Proofs.Ytebbnkjjebfgeaa
