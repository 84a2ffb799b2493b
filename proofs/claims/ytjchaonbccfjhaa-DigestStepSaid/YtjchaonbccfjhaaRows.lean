/-
  No cell of these rows narrows 'for every input' (looked for: loops, veiled, ifaces, maps, wideKeys, modest, calm, conditions, laid).
  DERIVED. THE GIVEN ROWS OF THIS SEAT. 6 by the template 'for every input the law returns true; each argument reads behind the call as it read before'; 0 by the template 'total and deterministic' (their statements: YtjchaonbccfjhaaTotals.lean).
  GIVEN WITH THE SEED: the statements are not yours to turn. If you find one false, say at which input.
  Laid BY PROGRAM, IN A SANDBOX (cutbox-rows.mjs): the forced cells as the released guide's own fill.sh prints them over the translation 1dac9b79b4555e4d… (all of the seat's roots in one cut). By AI agents, Wed Nov 11 2026. No macro, syntax, notation, axiom, sorry.
-/
import Derived.Test.YtjchaonbccfjhaaChecked
import GoSem.Claim
import GoSem.ClaimJoined
import GoSem.ClaimMapViews
import Derived.JoinedTies
import Derived.KernelRfl
namespace Go.Proofs.Ytjchaonbccfjhaa
/- THE CELL 'sum', in the pinned program and in every row, IS THE sha256 OF THE DUMP (.gsa) THAT YtjchaonbccfjhaaProg.lean LOADS. Nothing in Lean hashes anything: it is a label: what it is worth is what the hold of that sum in a sandbox is worth. -/
noncomputable def Try.pinned : Pinned := { name := "ytjchaonbccfjhaa", sum := "1dac9b79b4555e4d14a6e2797a61b4b0ae5d978b3cd1ef4785f2d00829c48259", checked := Try.checked }
namespace Rows
def none {H : Type} : Left H := { results := [], args := [] }

/-- 'pluginhostlaw3.DigestSum': WHATEVER THE INPUT: true; the input reads as it did. -/
def digestSumSpec : ChangeSpec := { name := "digestSum", fn := fun _ => fun
  | [d1, d2] => { results := [.lit (.bool true)], args := [d1, d2] }
  | _ => none }
def digestSumRow : OpenClaim := { program := "ytjchaonbccfjhaa", sum := "1dac9b79b4555e4d14a6e2797a61b4b0ae5d978b3cd1ef4785f2d00829c48259", func := "pluginhost/pluginhostlaw3.DigestSum", spec := "digestSum", apart := false }
def DigestSumSaid : Prop := digestSumRow.holds Try.pinned (OpenSpec.ofChange digestSumSpec)

/-- ITS FALSE NEIGHBOUR: 'it returns false'. Refute it at one input. -/
def digestSumWrong : ChangeSpec := { name := "digestSum", fn := fun _ => fun
  | [d1, d2] => { results := [.lit (.bool false)], args := [d1, d2] }
  | _ => none }
def DigestSumWrongFalsely : Prop := digestSumRow.holds Try.pinned (OpenSpec.ofChange digestSumWrong)

/-- 'pluginhostlaw3.DigestChain': WHATEVER THE INPUT: true; the input reads as it did. -/
def digestChainSpec : ChangeSpec := { name := "digestChain", fn := fun _ => fun
  | [d] => { results := [.lit (.bool true)], args := [d] }
  | _ => none }
def digestChainRow : OpenClaim := { program := "ytjchaonbccfjhaa", sum := "1dac9b79b4555e4d14a6e2797a61b4b0ae5d978b3cd1ef4785f2d00829c48259", func := "pluginhost/pluginhostlaw3.DigestChain", spec := "digestChain", apart := false }
def DigestChainSaid : Prop := digestChainRow.holds Try.pinned (OpenSpec.ofChange digestChainSpec)

/-- ITS FALSE NEIGHBOUR: 'it returns false'. Refute it at one input. -/
def digestChainWrong : ChangeSpec := { name := "digestChain", fn := fun _ => fun
  | [d] => { results := [.lit (.bool false)], args := [d] }
  | _ => none }
def DigestChainWrongFalsely : Prop := digestChainRow.holds Try.pinned (OpenSpec.ofChange digestChainWrong)

/-- 'pluginhostlaw3.DigestVerify': WHATEVER THE INPUT: true; the input reads as it did. -/
def digestVerifySpec : ChangeSpec := { name := "digestVerify", fn := fun _ => fun
  | [d1, d2, d3, d4, d5] => { results := [.lit (.bool true)], args := [d1, d2, d3, d4, d5] }
  | _ => none }
def digestVerifyRow : OpenClaim := { program := "ytjchaonbccfjhaa", sum := "1dac9b79b4555e4d14a6e2797a61b4b0ae5d978b3cd1ef4785f2d00829c48259", func := "pluginhost/pluginhostlaw3.DigestVerify", spec := "digestVerify", apart := false }
def DigestVerifySaid : Prop := digestVerifyRow.holds Try.pinned (OpenSpec.ofChange digestVerifySpec)

/-- ITS FALSE NEIGHBOUR: 'it returns false'. Refute it at one input. -/
def digestVerifyWrong : ChangeSpec := { name := "digestVerify", fn := fun _ => fun
  | [d1, d2, d3, d4, d5] => { results := [.lit (.bool false)], args := [d1, d2, d3, d4, d5] }
  | _ => none }
def DigestVerifyWrongFalsely : Prop := digestVerifyRow.holds Try.pinned (OpenSpec.ofChange digestVerifyWrong)

/-- 'pluginhostlaw3.DigestPrefix': WHATEVER THE INPUT: true; the input reads as it did. -/
def digestPrefixSpec : ChangeSpec := { name := "digestPrefix", fn := fun _ => fun
  | [d1, d2] => { results := [.lit (.bool true)], args := [d1, d2] }
  | _ => none }
def digestPrefixRow : OpenClaim := { program := "ytjchaonbccfjhaa", sum := "1dac9b79b4555e4d14a6e2797a61b4b0ae5d978b3cd1ef4785f2d00829c48259", func := "pluginhost/pluginhostlaw3.DigestPrefix", spec := "digestPrefix", apart := false }
def DigestPrefixSaid : Prop := digestPrefixRow.holds Try.pinned (OpenSpec.ofChange digestPrefixSpec)

/-- ITS FALSE NEIGHBOUR: 'it returns false'. Refute it at one input. -/
def digestPrefixWrong : ChangeSpec := { name := "digestPrefix", fn := fun _ => fun
  | [d1, d2] => { results := [.lit (.bool false)], args := [d1, d2] }
  | _ => none }
def DigestPrefixWrongFalsely : Prop := digestPrefixRow.holds Try.pinned (OpenSpec.ofChange digestPrefixWrong)

/-- 'pluginhostlaw3.DigestStep': WHATEVER THE INPUT: true; the input reads as it did. -/
def digestStepSpec : ChangeSpec := { name := "digestStep", fn := fun _ => fun
  | [d1, d2] => { results := [.lit (.bool true)], args := [d1, d2] }
  | _ => none }
def digestStepRow : OpenClaim := { program := "ytjchaonbccfjhaa", sum := "1dac9b79b4555e4d14a6e2797a61b4b0ae5d978b3cd1ef4785f2d00829c48259", func := "pluginhost/pluginhostlaw3.DigestStep", spec := "digestStep", apart := false }
def DigestStepSaid : Prop := digestStepRow.holds Try.pinned (OpenSpec.ofChange digestStepSpec)

/-- ITS FALSE NEIGHBOUR: 'it returns false'. Refute it at one input. -/
def digestStepWrong : ChangeSpec := { name := "digestStep", fn := fun _ => fun
  | [d1, d2] => { results := [.lit (.bool false)], args := [d1, d2] }
  | _ => none }
def DigestStepWrongFalsely : Prop := digestStepRow.holds Try.pinned (OpenSpec.ofChange digestStepWrong)

/-- 'pluginhostlaw3.DigestByte': WHATEVER THE INPUT: true; the input reads as it did. -/
def digestByteSpec : ChangeSpec := { name := "digestByte", fn := fun _ => fun
  | [d1, d2, d3, d4] => { results := [.lit (.bool true)], args := [d1, d2, d3, d4] }
  | _ => none }
def digestByteRow : OpenClaim := { program := "ytjchaonbccfjhaa", sum := "1dac9b79b4555e4d14a6e2797a61b4b0ae5d978b3cd1ef4785f2d00829c48259", func := "pluginhost/pluginhostlaw3.DigestByte", spec := "digestByte", apart := false }
def DigestByteSaid : Prop := digestByteRow.holds Try.pinned (OpenSpec.ofChange digestByteSpec)

/-- ITS FALSE NEIGHBOUR: 'it returns false'. Refute it at one input. -/
def digestByteWrong : ChangeSpec := { name := "digestByte", fn := fun _ => fun
  | [d1, d2, d3, d4] => { results := [.lit (.bool false)], args := [d1, d2, d3, d4] }
  | _ => none }
def DigestByteWrongFalsely : Prop := digestByteRow.holds Try.pinned (OpenSpec.ofChange digestByteWrong)

/- THE SECOND FORM. 'bulk': how many values and letters a reading holds, each counted each time it is reached (what is shared counts as often as it is met; a slice's spare places count too). A statement '..UptoSaid' is the law's where the arguments, and the package variables that the reading takes, are together of bulk at most 1048576: NARROWER than '..Said'. Prove '..Said' where nothing that the law and all that it calls make is longer than what came in: it says more and counts as full. Else prove '..UptoSaid'. A law counts once. -/
mutual
def uptoBulk {H : Type} : DataW H → Nat
  | .lit (.string bytes) => bytes.length + 1
  | .lit _ => 1
  | .nil => 1
  | .ptr d => uptoBulk d + 1
  | .slice elems spare => uptoBulkAll elems + uptoBulkAll spare + 1
  | .agg parts => uptoBulkAll parts + 1
  | .iface _ d => uptoBulk d + 1
  | .map entries => uptoBulkEntries entries + 1
  | .held _ => 1
def uptoBulkAll {H : Type} : List (DataW H) → Nat
  | [] => 0
  | d :: r => uptoBulk d + uptoBulkAll r
def uptoBulkEntries {H : Type} : List (Lit × DataW H) → Nat
  | [] => 0
  | x :: r => uptoBulkEntry x + uptoBulkEntries r
def uptoBulkEntry {H : Type} : Lit × DataW H → Nat
  | (.string bytes, d) => bytes.length + uptoBulk d + 1
  | (_, d) => uptoBulk d + 1
 end
def uptoSmall : (H : Type) → List (DataW H) → Bool := fun _ ds => decide (uptoBulkAll ds ≤ 1048576)
def OpenSpec.upto (s : _root_.Go.ChangeSpec) : _root_.Go.OpenSpec := { _root_.Go.OpenSpec.ofChange s with cond := some uptoSmall }

/-- 'pluginhostlaw3.DigestSum', WHERE WHAT IT READS IS OF BULK AT MOST 1048576: true; the input reads as it did. -/
def digestSumUptoRow : OpenClaim := { program := "ytjchaonbccfjhaa", sum := "1dac9b79b4555e4d14a6e2797a61b4b0ae5d978b3cd1ef4785f2d00829c48259", func := "pluginhost/pluginhostlaw3.DigestSum", spec := "digestSum", apart := false, narrowed := true }
def DigestSumUptoSaid : Prop := digestSumUptoRow.holds Try.pinned (OpenSpec.upto digestSumSpec)

/-- 'pluginhostlaw3.DigestChain', WHERE WHAT IT READS IS OF BULK AT MOST 1048576: true; the input reads as it did. -/
def digestChainUptoRow : OpenClaim := { program := "ytjchaonbccfjhaa", sum := "1dac9b79b4555e4d14a6e2797a61b4b0ae5d978b3cd1ef4785f2d00829c48259", func := "pluginhost/pluginhostlaw3.DigestChain", spec := "digestChain", apart := false, narrowed := true }
def DigestChainUptoSaid : Prop := digestChainUptoRow.holds Try.pinned (OpenSpec.upto digestChainSpec)

/-- 'pluginhostlaw3.DigestVerify', WHERE WHAT IT READS IS OF BULK AT MOST 1048576: true; the input reads as it did. -/
def digestVerifyUptoRow : OpenClaim := { program := "ytjchaonbccfjhaa", sum := "1dac9b79b4555e4d14a6e2797a61b4b0ae5d978b3cd1ef4785f2d00829c48259", func := "pluginhost/pluginhostlaw3.DigestVerify", spec := "digestVerify", apart := false, narrowed := true }
def DigestVerifyUptoSaid : Prop := digestVerifyUptoRow.holds Try.pinned (OpenSpec.upto digestVerifySpec)

/-- 'pluginhostlaw3.DigestPrefix', WHERE WHAT IT READS IS OF BULK AT MOST 1048576: true; the input reads as it did. -/
def digestPrefixUptoRow : OpenClaim := { program := "ytjchaonbccfjhaa", sum := "1dac9b79b4555e4d14a6e2797a61b4b0ae5d978b3cd1ef4785f2d00829c48259", func := "pluginhost/pluginhostlaw3.DigestPrefix", spec := "digestPrefix", apart := false, narrowed := true }
def DigestPrefixUptoSaid : Prop := digestPrefixUptoRow.holds Try.pinned (OpenSpec.upto digestPrefixSpec)

/-- 'pluginhostlaw3.DigestStep', WHERE WHAT IT READS IS OF BULK AT MOST 1048576: true; the input reads as it did. -/
def digestStepUptoRow : OpenClaim := { program := "ytjchaonbccfjhaa", sum := "1dac9b79b4555e4d14a6e2797a61b4b0ae5d978b3cd1ef4785f2d00829c48259", func := "pluginhost/pluginhostlaw3.DigestStep", spec := "digestStep", apart := false, narrowed := true }
def DigestStepUptoSaid : Prop := digestStepUptoRow.holds Try.pinned (OpenSpec.upto digestStepSpec)

/-- 'pluginhostlaw3.DigestByte', WHERE WHAT IT READS IS OF BULK AT MOST 1048576: true; the input reads as it did. -/
def digestByteUptoRow : OpenClaim := { program := "ytjchaonbccfjhaa", sum := "1dac9b79b4555e4d14a6e2797a61b4b0ae5d978b3cd1ef4785f2d00829c48259", func := "pluginhost/pluginhostlaw3.DigestByte", spec := "digestByte", apart := false, narrowed := true }
def DigestByteUptoSaid : Prop := digestByteUptoRow.holds Try.pinned (OpenSpec.upto digestByteSpec)

end Rows
end Go.Proofs.Ytjchaonbccfjhaa
