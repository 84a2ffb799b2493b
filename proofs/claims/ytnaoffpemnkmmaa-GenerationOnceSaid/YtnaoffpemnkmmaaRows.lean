/-
  No cell of these rows narrows 'for every input' (looked for: loops, veiled, ifaces, maps, wideKeys, modest, calm, conditions, laid).
  DERIVED. THE GIVEN ROWS OF THIS SEAT. 5 by the template 'for every input the law returns true; each argument reads behind the call as it read before'; 0 by the template 'total and deterministic' (their statements: YtnaoffpemnkmmaaTotals.lean).
  GIVEN WITH THE SEED: the statements are not yours to turn. If you find one false, say at which input.
  Laid BY PROGRAM, IN A SANDBOX (cutbox-rows.mjs): the forced cells as the released guide's own fill.sh prints them over the translation fed4a2443823989d… (all of the seat's roots in one cut). By AI agents, Wed Nov 11 2026. No macro, syntax, notation, axiom, sorry.
-/
import Derived.Test.YtnaoffpemnkmmaaChecked
import GoSem.Claim
import GoSem.ClaimJoined
import GoSem.ClaimMapViews
import Derived.JoinedTies
import Derived.KernelRfl
namespace Go.Proofs.Ytnaoffpemnkmmaa
/- THE CELL 'sum', in the pinned program and in every row, IS THE sha256 OF THE DUMP (.gsa) THAT YtnaoffpemnkmmaaProg.lean LOADS. Nothing in Lean hashes anything: it is a label: what it is worth is what the hold of that sum in a sandbox is worth. -/
noncomputable def Try.pinned : Pinned := { name := "ytnaoffpemnkmmaa", sum := "fed4a2443823989de32a52758650adc3b150ceb73a6c7f1960aaed72e8c12dd0", checked := Try.checked }
namespace Rows
def none {H : Type} : Left H := { results := [], args := [] }

/-- 'pluginhostlaw12.GenerationPlays': WHATEVER THE INPUT: true; the input reads as it did. -/
def generationPlaysSpec : ChangeSpec := { name := "generationPlays", fn := fun _ => fun
  | [d1, d2, d3] => { results := [.lit (.bool true)], args := [d1, d2, d3] }
  | _ => none }
def generationPlaysRow : OpenClaim := { program := "ytnaoffpemnkmmaa", sum := "fed4a2443823989de32a52758650adc3b150ceb73a6c7f1960aaed72e8c12dd0", func := "pluginhost/pluginhostlaw12.GenerationPlays", spec := "generationPlays", unfollowed := true, recurses := true, plainKeys := false, apart := false }
def GenerationPlaysSaid : Prop := generationPlaysRow.holds Try.pinned (OpenSpec.ofChange generationPlaysSpec)

/-- ITS FALSE NEIGHBOUR: 'it returns false'. Refute it at one input. -/
def generationPlaysWrong : ChangeSpec := { name := "generationPlays", fn := fun _ => fun
  | [d1, d2, d3] => { results := [.lit (.bool false)], args := [d1, d2, d3] }
  | _ => none }
def GenerationPlaysWrongFalsely : Prop := generationPlaysRow.holds Try.pinned (OpenSpec.ofChange generationPlaysWrong)

/-- 'pluginhostlaw12.GenerationNew': WHATEVER THE INPUT: true; the input reads as it did. -/
def generationNewSpec : ChangeSpec := { name := "generationNew", fn := fun _ => fun
  | [d1, d2, d3, d4] => { results := [.lit (.bool true)], args := [d1, d2, d3, d4] }
  | _ => none }
def generationNewRow : OpenClaim := { program := "ytnaoffpemnkmmaa", sum := "fed4a2443823989de32a52758650adc3b150ceb73a6c7f1960aaed72e8c12dd0", func := "pluginhost/pluginhostlaw12.GenerationNew", spec := "generationNew", unfollowed := true, recurses := true, plainKeys := false, apart := false }
def GenerationNewSaid : Prop := generationNewRow.holds Try.pinned (OpenSpec.ofChange generationNewSpec)

/-- ITS FALSE NEIGHBOUR: 'it returns false'. Refute it at one input. -/
def generationNewWrong : ChangeSpec := { name := "generationNew", fn := fun _ => fun
  | [d1, d2, d3, d4] => { results := [.lit (.bool false)], args := [d1, d2, d3, d4] }
  | _ => none }
def GenerationNewWrongFalsely : Prop := generationNewRow.holds Try.pinned (OpenSpec.ofChange generationNewWrong)

/-- 'pluginhostlaw12.GenerationOnce': WHATEVER THE INPUT: true; the input reads as it did. -/
def generationOnceSpec : ChangeSpec := { name := "generationOnce", fn := fun _ => fun
  | [d1, d2, d3] => { results := [.lit (.bool true)], args := [d1, d2, d3] }
  | _ => none }
def generationOnceRow : OpenClaim := { program := "ytnaoffpemnkmmaa", sum := "fed4a2443823989de32a52758650adc3b150ceb73a6c7f1960aaed72e8c12dd0", func := "pluginhost/pluginhostlaw12.GenerationOnce", spec := "generationOnce", plainKeys := false, apart := false }
def GenerationOnceSaid : Prop := generationOnceRow.holds Try.pinned (OpenSpec.ofChange generationOnceSpec)

/-- ITS FALSE NEIGHBOUR: 'it returns false'. Refute it at one input. -/
def generationOnceWrong : ChangeSpec := { name := "generationOnce", fn := fun _ => fun
  | [d1, d2, d3] => { results := [.lit (.bool false)], args := [d1, d2, d3] }
  | _ => none }
def GenerationOnceWrongFalsely : Prop := generationOnceRow.holds Try.pinned (OpenSpec.ofChange generationOnceWrong)

/-- 'pluginhostlaw12.GenerationFull': WHATEVER THE INPUT: true; the input reads as it did. -/
def generationFullSpec : ChangeSpec := { name := "generationFull", fn := fun _ => fun
  | [d1, d2, d3] => { results := [.lit (.bool true)], args := [d1, d2, d3] }
  | _ => none }
def generationFullRow : OpenClaim := { program := "ytnaoffpemnkmmaa", sum := "fed4a2443823989de32a52758650adc3b150ceb73a6c7f1960aaed72e8c12dd0", func := "pluginhost/pluginhostlaw12.GenerationFull", spec := "generationFull", unfollowed := true, recurses := true, plainKeys := false, apart := false }
def GenerationFullSaid : Prop := generationFullRow.holds Try.pinned (OpenSpec.ofChange generationFullSpec)

/-- ITS FALSE NEIGHBOUR: 'it returns false'. Refute it at one input. -/
def generationFullWrong : ChangeSpec := { name := "generationFull", fn := fun _ => fun
  | [d1, d2, d3] => { results := [.lit (.bool false)], args := [d1, d2, d3] }
  | _ => none }
def GenerationFullWrongFalsely : Prop := generationFullRow.holds Try.pinned (OpenSpec.ofChange generationFullWrong)

/-- 'pluginhostlaw12.GenerationRetires': WHATEVER THE INPUT: true; the input reads as it did. -/
def generationRetiresSpec : ChangeSpec := { name := "generationRetires", fn := fun _ => fun
  | [d1, d2, d3] => { results := [.lit (.bool true)], args := [d1, d2, d3] }
  | _ => none }
def generationRetiresRow : OpenClaim := { program := "ytnaoffpemnkmmaa", sum := "fed4a2443823989de32a52758650adc3b150ceb73a6c7f1960aaed72e8c12dd0", func := "pluginhost/pluginhostlaw12.GenerationRetires", spec := "generationRetires", unfollowed := true, recurses := true, plainKeys := false, apart := false }
def GenerationRetiresSaid : Prop := generationRetiresRow.holds Try.pinned (OpenSpec.ofChange generationRetiresSpec)

/-- ITS FALSE NEIGHBOUR: 'it returns false'. Refute it at one input. -/
def generationRetiresWrong : ChangeSpec := { name := "generationRetires", fn := fun _ => fun
  | [d1, d2, d3] => { results := [.lit (.bool false)], args := [d1, d2, d3] }
  | _ => none }
def GenerationRetiresWrongFalsely : Prop := generationRetiresRow.holds Try.pinned (OpenSpec.ofChange generationRetiresWrong)

/- THE SECOND FORM. 'bulk': how many values and letters a reading holds, each counted each time it is reached (what is shared counts as often as it is met; a slice's spare places count too). A statement '..UptoSaid' is the law's where the arguments, and the package variables that the reading takes, are together of bulk at most 1048576: NARROWER than '..Said'. Prove '..Said' where nothing that the law and all that it calls make is longer than what came in: it says more and counts as full. Else prove '..UptoSaid'. A law counts once. -/
mutual
def uptoBulk {H : Type} : DataW H → Nat
  | .lit (.string bytes) => bytes.length + 1
  | .lit _ => 1
  | .nil => 1
  | .ptr d => uptoBulk d + 1
  | .slice elems spare => uptoBulkAll elems + uptoBulkAll spare + 1
  | .agg parts => uptoBulkAll parts + 1
  | .iface _ d => uptoBulk d + 1
  | .map entries => uptoBulkEntries entries + 1
  | .held _ => 1
def uptoBulkAll {H : Type} : List (DataW H) → Nat
  | [] => 0
  | d :: r => uptoBulk d + uptoBulkAll r
def uptoBulkEntries {H : Type} : List (Lit × DataW H) → Nat
  | [] => 0
  | x :: r => uptoBulkEntry x + uptoBulkEntries r
def uptoBulkEntry {H : Type} : Lit × DataW H → Nat
  | (.string bytes, d) => bytes.length + uptoBulk d + 1
  | (_, d) => uptoBulk d + 1
 end
def uptoSmall : (H : Type) → List (DataW H) → Bool := fun _ ds => decide (uptoBulkAll ds ≤ 1048576)
def OpenSpec.upto (s : _root_.Go.ChangeSpec) : _root_.Go.OpenSpec := { _root_.Go.OpenSpec.ofChange s with cond := some uptoSmall }

/-- 'pluginhostlaw12.GenerationPlays', WHERE WHAT IT READS IS OF BULK AT MOST 1048576: true; the input reads as it did. -/
def generationPlaysUptoRow : OpenClaim := { program := "ytnaoffpemnkmmaa", sum := "fed4a2443823989de32a52758650adc3b150ceb73a6c7f1960aaed72e8c12dd0", func := "pluginhost/pluginhostlaw12.GenerationPlays", spec := "generationPlays", unfollowed := true, recurses := true, plainKeys := false, apart := false, narrowed := true }
def GenerationPlaysUptoSaid : Prop := generationPlaysUptoRow.holds Try.pinned (OpenSpec.upto generationPlaysSpec)

/-- 'pluginhostlaw12.GenerationNew', WHERE WHAT IT READS IS OF BULK AT MOST 1048576: true; the input reads as it did. -/
def generationNewUptoRow : OpenClaim := { program := "ytnaoffpemnkmmaa", sum := "fed4a2443823989de32a52758650adc3b150ceb73a6c7f1960aaed72e8c12dd0", func := "pluginhost/pluginhostlaw12.GenerationNew", spec := "generationNew", unfollowed := true, recurses := true, plainKeys := false, apart := false, narrowed := true }
def GenerationNewUptoSaid : Prop := generationNewUptoRow.holds Try.pinned (OpenSpec.upto generationNewSpec)

/-- 'pluginhostlaw12.GenerationOnce', WHERE WHAT IT READS IS OF BULK AT MOST 1048576: true; the input reads as it did. -/
def generationOnceUptoRow : OpenClaim := { program := "ytnaoffpemnkmmaa", sum := "fed4a2443823989de32a52758650adc3b150ceb73a6c7f1960aaed72e8c12dd0", func := "pluginhost/pluginhostlaw12.GenerationOnce", spec := "generationOnce", plainKeys := false, apart := false, narrowed := true }
def GenerationOnceUptoSaid : Prop := generationOnceUptoRow.holds Try.pinned (OpenSpec.upto generationOnceSpec)

/-- 'pluginhostlaw12.GenerationFull', WHERE WHAT IT READS IS OF BULK AT MOST 1048576: true; the input reads as it did. -/
def generationFullUptoRow : OpenClaim := { program := "ytnaoffpemnkmmaa", sum := "fed4a2443823989de32a52758650adc3b150ceb73a6c7f1960aaed72e8c12dd0", func := "pluginhost/pluginhostlaw12.GenerationFull", spec := "generationFull", unfollowed := true, recurses := true, plainKeys := false, apart := false, narrowed := true }
def GenerationFullUptoSaid : Prop := generationFullUptoRow.holds Try.pinned (OpenSpec.upto generationFullSpec)

/-- 'pluginhostlaw12.GenerationRetires', WHERE WHAT IT READS IS OF BULK AT MOST 1048576: true; the input reads as it did. -/
def generationRetiresUptoRow : OpenClaim := { program := "ytnaoffpemnkmmaa", sum := "fed4a2443823989de32a52758650adc3b150ceb73a6c7f1960aaed72e8c12dd0", func := "pluginhost/pluginhostlaw12.GenerationRetires", spec := "generationRetires", unfollowed := true, recurses := true, plainKeys := false, apart := false, narrowed := true }
def GenerationRetiresUptoSaid : Prop := generationRetiresUptoRow.holds Try.pinned (OpenSpec.upto generationRetiresSpec)

end Rows
end Go.Proofs.Ytnaoffpemnkmmaa
