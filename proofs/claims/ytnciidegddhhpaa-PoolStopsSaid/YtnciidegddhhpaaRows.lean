/-
  No cell of these rows narrows 'for every input' (looked for: loops, veiled, ifaces, maps, wideKeys, modest, calm, conditions, laid).
  DERIVED. THE GIVEN ROWS OF THIS SEAT. 5 by the template 'for every input the law returns true; each argument reads behind the call as it read before'; 0 by the template 'total and deterministic' (their statements: YtnciidegddhhpaaTotals.lean).
  GIVEN WITH THE SEED: the statements are not yours to turn. If you find one false, say at which input.
  Laid BY PROGRAM, IN A SANDBOX (cutbox-rows.mjs): the forced cells as the released guide's own fill.sh prints them over the translation 5f38c3b1a26ad855… (all of the seat's roots in one cut). By AI agents, Wed Nov 11 2026. No macro, syntax, notation, axiom, sorry.
-/
import Derived.Test.YtnciidegddhhpaaChecked
import GoSem.Claim
import GoSem.ClaimJoined
import GoSem.ClaimMapViews
import Derived.JoinedTies
import Derived.KernelRfl
namespace Go.Proofs.Ytnciidegddhhpaa
/- THE CELL 'sum', in the pinned program and in every row, IS THE sha256 OF THE DUMP (.gsa) THAT YtnciidegddhhpaaProg.lean LOADS. Nothing in Lean hashes anything: it is a label: what it is worth is what the hold of that sum in a sandbox is worth. -/
noncomputable def Try.pinned : Pinned := { name := "ytnciidegddhhpaa", sum := "5f38c3b1a26ad85502d6dfa4447a678921f22aa81632fd60f5137427a363f035", checked := Try.checked }
namespace Rows
def none {H : Type} : Left H := { results := [], args := [] }

/-- 'pluginhostlaw11.PoolPlays': WHATEVER THE INPUT: true; the input reads as it did. -/
def poolPlaysSpec : ChangeSpec := { name := "poolPlays", fn := fun _ => fun
  | [d1, d2, d3] => { results := [.lit (.bool true)], args := [d1, d2, d3] }
  | _ => none }
def poolPlaysRow : OpenClaim := { program := "ytnciidegddhhpaa", sum := "5f38c3b1a26ad85502d6dfa4447a678921f22aa81632fd60f5137427a363f035", func := "pluginhost/pluginhostlaw11.PoolPlays", spec := "poolPlays", unfollowed := true, recurses := true, apart := false }
def PoolPlaysSaid : Prop := poolPlaysRow.holds Try.pinned (OpenSpec.ofChange poolPlaysSpec)

/-- ITS FALSE NEIGHBOUR: 'it returns false'. Refute it at one input. -/
def poolPlaysWrong : ChangeSpec := { name := "poolPlays", fn := fun _ => fun
  | [d1, d2, d3] => { results := [.lit (.bool false)], args := [d1, d2, d3] }
  | _ => none }
def PoolPlaysWrongFalsely : Prop := poolPlaysRow.holds Try.pinned (OpenSpec.ofChange poolPlaysWrong)

/-- 'pluginhostlaw11.PoolKinds': WHATEVER THE INPUT: true; the input reads as it did. -/
def poolKindsSpec : ChangeSpec := { name := "poolKinds", fn := fun _ => fun
  | [d1, d2] => { results := [.lit (.bool true)], args := [d1, d2] }
  | _ => none }
def poolKindsRow : OpenClaim := { program := "ytnciidegddhhpaa", sum := "5f38c3b1a26ad85502d6dfa4447a678921f22aa81632fd60f5137427a363f035", func := "pluginhost/pluginhostlaw11.PoolKinds", spec := "poolKinds", apart := false }
def PoolKindsSaid : Prop := poolKindsRow.holds Try.pinned (OpenSpec.ofChange poolKindsSpec)

/-- ITS FALSE NEIGHBOUR: 'it returns false'. Refute it at one input. -/
def poolKindsWrong : ChangeSpec := { name := "poolKinds", fn := fun _ => fun
  | [d1, d2] => { results := [.lit (.bool false)], args := [d1, d2] }
  | _ => none }
def PoolKindsWrongFalsely : Prop := poolKindsRow.holds Try.pinned (OpenSpec.ofChange poolKindsWrong)

/-- 'pluginhostlaw11.PoolOnce': WHATEVER THE INPUT: true; the input reads as it did. -/
def poolOnceSpec : ChangeSpec := { name := "poolOnce", fn := fun _ => fun
  | [d1, d2] => { results := [.lit (.bool true)], args := [d1, d2] }
  | _ => none }
def poolOnceRow : OpenClaim := { program := "ytnciidegddhhpaa", sum := "5f38c3b1a26ad85502d6dfa4447a678921f22aa81632fd60f5137427a363f035", func := "pluginhost/pluginhostlaw11.PoolOnce", spec := "poolOnce", apart := false }
def PoolOnceSaid : Prop := poolOnceRow.holds Try.pinned (OpenSpec.ofChange poolOnceSpec)

/-- ITS FALSE NEIGHBOUR: 'it returns false'. Refute it at one input. -/
def poolOnceWrong : ChangeSpec := { name := "poolOnce", fn := fun _ => fun
  | [d1, d2] => { results := [.lit (.bool false)], args := [d1, d2] }
  | _ => none }
def PoolOnceWrongFalsely : Prop := poolOnceRow.holds Try.pinned (OpenSpec.ofChange poolOnceWrong)

/-- 'pluginhostlaw11.PoolNone': WHATEVER THE INPUT: true; the input reads as it did. -/
def poolNoneSpec : ChangeSpec := { name := "poolNone", fn := fun _ => fun
  | [d1, d2] => { results := [.lit (.bool true)], args := [d1, d2] }
  | _ => none }
def poolNoneRow : OpenClaim := { program := "ytnciidegddhhpaa", sum := "5f38c3b1a26ad85502d6dfa4447a678921f22aa81632fd60f5137427a363f035", func := "pluginhost/pluginhostlaw11.PoolNone", spec := "poolNone", unfollowed := true, recurses := true, apart := false }
def PoolNoneSaid : Prop := poolNoneRow.holds Try.pinned (OpenSpec.ofChange poolNoneSpec)

/-- ITS FALSE NEIGHBOUR: 'it returns false'. Refute it at one input. -/
def poolNoneWrong : ChangeSpec := { name := "poolNone", fn := fun _ => fun
  | [d1, d2] => { results := [.lit (.bool false)], args := [d1, d2] }
  | _ => none }
def PoolNoneWrongFalsely : Prop := poolNoneRow.holds Try.pinned (OpenSpec.ofChange poolNoneWrong)

/-- 'pluginhostlaw11.PoolStops': WHATEVER THE INPUT: true; the input reads as it did. -/
def poolStopsSpec : ChangeSpec := { name := "poolStops", fn := fun _ => fun
  | [d1, d2, d3] => { results := [.lit (.bool true)], args := [d1, d2, d3] }
  | _ => none }
def poolStopsRow : OpenClaim := { program := "ytnciidegddhhpaa", sum := "5f38c3b1a26ad85502d6dfa4447a678921f22aa81632fd60f5137427a363f035", func := "pluginhost/pluginhostlaw11.PoolStops", spec := "poolStops", unfollowed := true, recurses := true, apart := false }
def PoolStopsSaid : Prop := poolStopsRow.holds Try.pinned (OpenSpec.ofChange poolStopsSpec)

/-- ITS FALSE NEIGHBOUR: 'it returns false'. Refute it at one input. -/
def poolStopsWrong : ChangeSpec := { name := "poolStops", fn := fun _ => fun
  | [d1, d2, d3] => { results := [.lit (.bool false)], args := [d1, d2, d3] }
  | _ => none }
def PoolStopsWrongFalsely : Prop := poolStopsRow.holds Try.pinned (OpenSpec.ofChange poolStopsWrong)

/- THE SECOND FORM. 'bulk': how many values and letters a reading holds, each counted each time it is reached (what is shared counts as often as it is met; a slice's spare places count too). A statement '..UptoSaid' is the law's where the arguments, and the package variables that the reading takes, are together of bulk at most 1048576: NARROWER than '..Said'. Prove '..Said' where nothing that the law and all that it calls make is longer than what came in: it says more and counts as full. Else prove '..UptoSaid'. A law counts once. -/
mutual
def uptoBulk {H : Type} : DataW H → Nat
  | .lit (.string bytes) => bytes.length + 1
  | .lit _ => 1
  | .nil => 1
  | .ptr d => uptoBulk d + 1
  | .slice elems spare => uptoBulkAll elems + uptoBulkAll spare + 1
  | .agg parts => uptoBulkAll parts + 1
  | .iface _ d => uptoBulk d + 1
  | .map entries => uptoBulkEntries entries + 1
  | .held _ => 1
def uptoBulkAll {H : Type} : List (DataW H) → Nat
  | [] => 0
  | d :: r => uptoBulk d + uptoBulkAll r
def uptoBulkEntries {H : Type} : List (Lit × DataW H) → Nat
  | [] => 0
  | x :: r => uptoBulkEntry x + uptoBulkEntries r
def uptoBulkEntry {H : Type} : Lit × DataW H → Nat
  | (.string bytes, d) => bytes.length + uptoBulk d + 1
  | (_, d) => uptoBulk d + 1
 end
def uptoSmall : (H : Type) → List (DataW H) → Bool := fun _ ds => decide (uptoBulkAll ds ≤ 1048576)
def OpenSpec.upto (s : _root_.Go.ChangeSpec) : _root_.Go.OpenSpec := { _root_.Go.OpenSpec.ofChange s with cond := some uptoSmall }

/-- 'pluginhostlaw11.PoolPlays', WHERE WHAT IT READS IS OF BULK AT MOST 1048576: true; the input reads as it did. -/
def poolPlaysUptoRow : OpenClaim := { program := "ytnciidegddhhpaa", sum := "5f38c3b1a26ad85502d6dfa4447a678921f22aa81632fd60f5137427a363f035", func := "pluginhost/pluginhostlaw11.PoolPlays", spec := "poolPlays", unfollowed := true, recurses := true, apart := false, narrowed := true }
def PoolPlaysUptoSaid : Prop := poolPlaysUptoRow.holds Try.pinned (OpenSpec.upto poolPlaysSpec)

/-- 'pluginhostlaw11.PoolKinds', WHERE WHAT IT READS IS OF BULK AT MOST 1048576: true; the input reads as it did. -/
def poolKindsUptoRow : OpenClaim := { program := "ytnciidegddhhpaa", sum := "5f38c3b1a26ad85502d6dfa4447a678921f22aa81632fd60f5137427a363f035", func := "pluginhost/pluginhostlaw11.PoolKinds", spec := "poolKinds", apart := false, narrowed := true }
def PoolKindsUptoSaid : Prop := poolKindsUptoRow.holds Try.pinned (OpenSpec.upto poolKindsSpec)

/-- 'pluginhostlaw11.PoolOnce', WHERE WHAT IT READS IS OF BULK AT MOST 1048576: true; the input reads as it did. -/
def poolOnceUptoRow : OpenClaim := { program := "ytnciidegddhhpaa", sum := "5f38c3b1a26ad85502d6dfa4447a678921f22aa81632fd60f5137427a363f035", func := "pluginhost/pluginhostlaw11.PoolOnce", spec := "poolOnce", apart := false, narrowed := true }
def PoolOnceUptoSaid : Prop := poolOnceUptoRow.holds Try.pinned (OpenSpec.upto poolOnceSpec)

/-- 'pluginhostlaw11.PoolNone', WHERE WHAT IT READS IS OF BULK AT MOST 1048576: true; the input reads as it did. -/
def poolNoneUptoRow : OpenClaim := { program := "ytnciidegddhhpaa", sum := "5f38c3b1a26ad85502d6dfa4447a678921f22aa81632fd60f5137427a363f035", func := "pluginhost/pluginhostlaw11.PoolNone", spec := "poolNone", unfollowed := true, recurses := true, apart := false, narrowed := true }
def PoolNoneUptoSaid : Prop := poolNoneUptoRow.holds Try.pinned (OpenSpec.upto poolNoneSpec)

/-- 'pluginhostlaw11.PoolStops', WHERE WHAT IT READS IS OF BULK AT MOST 1048576: true; the input reads as it did. -/
def poolStopsUptoRow : OpenClaim := { program := "ytnciidegddhhpaa", sum := "5f38c3b1a26ad85502d6dfa4447a678921f22aa81632fd60f5137427a363f035", func := "pluginhost/pluginhostlaw11.PoolStops", spec := "poolStops", unfollowed := true, recurses := true, apart := false, narrowed := true }
def PoolStopsUptoSaid : Prop := poolStopsUptoRow.holds Try.pinned (OpenSpec.upto poolStopsSpec)

end Rows
end Go.Proofs.Ytnciidegddhhpaa
