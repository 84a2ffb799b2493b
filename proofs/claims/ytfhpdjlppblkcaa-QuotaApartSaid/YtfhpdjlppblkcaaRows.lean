/-
  No cell of these rows narrows 'for every input' (looked for: loops, veiled, ifaces, maps, wideKeys, modest, calm, conditions, laid).
  DERIVED. THE GIVEN ROWS OF THIS SEAT. 5 by the template 'for every input the law returns true; each argument reads behind the call as it read before'; 0 by the template 'total and deterministic' (their statements: YtfhpdjlppblkcaaTotals.lean).
  GIVEN WITH THE SEED: the statements are not yours to turn. If you find one false, say at which input.
  Laid BY PROGRAM, IN A SANDBOX (cutbox-rows.mjs): the forced cells as the released guide's own fill.sh prints them over the translation e727d1b228883654… (all of the seat's roots in one cut). By AI agents, Wed Nov 11 2026. No macro, syntax, notation, axiom, sorry.
-/
import Derived.Test.YtfhpdjlppblkcaaChecked
import GoSem.Claim
import GoSem.ClaimJoined
import GoSem.ClaimMapViews
import Derived.JoinedTies
import Derived.KernelRfl
namespace Go.Proofs.Ytfhpdjlppblkcaa
/- THE CELL 'sum', in the pinned program and in every row, IS THE sha256 OF THE DUMP (.gsa) THAT YtfhpdjlppblkcaaProg.lean LOADS. Nothing in Lean hashes anything: it is a label: what it is worth is what the hold of that sum in a sandbox is worth. -/
noncomputable def Try.pinned : Pinned := { name := "ytfhpdjlppblkcaa", sum := "e727d1b228883654ad7524f0fcd53e53c08e7b0fce3752b43f84f36e9a4ad502", checked := Try.checked }
namespace Rows
def none {H : Type} : Left H := { results := [], args := [] }

/-- 'pluginhostlaw15.QuotaPlays': WHATEVER THE INPUT: true; the input reads as it did. -/
def quotaPlaysSpec : ChangeSpec := { name := "quotaPlays", fn := fun _ => fun
  | [d1, d2] => { results := [.lit (.bool true)], args := [d1, d2] }
  | _ => none }
def quotaPlaysRow : OpenClaim := { program := "ytfhpdjlppblkcaa", sum := "e727d1b228883654ad7524f0fcd53e53c08e7b0fce3752b43f84f36e9a4ad502", func := "pluginhost/pluginhostlaw15.QuotaPlays", spec := "quotaPlays", apart := false }
def QuotaPlaysSaid : Prop := quotaPlaysRow.holds Try.pinned (OpenSpec.ofChange quotaPlaysSpec)

/-- ITS FALSE NEIGHBOUR: 'it returns false'. Refute it at one input. -/
def quotaPlaysWrong : ChangeSpec := { name := "quotaPlays", fn := fun _ => fun
  | [d1, d2] => { results := [.lit (.bool false)], args := [d1, d2] }
  | _ => none }
def QuotaPlaysWrongFalsely : Prop := quotaPlaysRow.holds Try.pinned (OpenSpec.ofChange quotaPlaysWrong)

/-- 'pluginhostlaw15.QuotaRaw': WHATEVER THE INPUT: true; the input reads as it did. -/
def quotaRawSpec : ChangeSpec := { name := "quotaRaw", fn := fun _ => fun
  | [d1, d2, d3, d4, d5, d6] => { results := [.lit (.bool true)], args := [d1, d2, d3, d4, d5, d6] }
  | _ => none }
def quotaRawRow : OpenClaim := { program := "ytfhpdjlppblkcaa", sum := "e727d1b228883654ad7524f0fcd53e53c08e7b0fce3752b43f84f36e9a4ad502", func := "pluginhost/pluginhostlaw15.QuotaRaw", spec := "quotaRaw", apart := false }
def QuotaRawSaid : Prop := quotaRawRow.holds Try.pinned (OpenSpec.ofChange quotaRawSpec)

/-- ITS FALSE NEIGHBOUR: 'it returns false'. Refute it at one input. -/
def quotaRawWrong : ChangeSpec := { name := "quotaRaw", fn := fun _ => fun
  | [d1, d2, d3, d4, d5, d6] => { results := [.lit (.bool false)], args := [d1, d2, d3, d4, d5, d6] }
  | _ => none }
def QuotaRawWrongFalsely : Prop := quotaRawRow.holds Try.pinned (OpenSpec.ofChange quotaRawWrong)

/-- 'pluginhostlaw15.QuotaExact': WHATEVER THE INPUT: true; the input reads as it did. -/
def quotaExactSpec : ChangeSpec := { name := "quotaExact", fn := fun _ => fun
  | [d1, d2, d3] => { results := [.lit (.bool true)], args := [d1, d2, d3] }
  | _ => none }
def quotaExactRow : OpenClaim := { program := "ytfhpdjlppblkcaa", sum := "e727d1b228883654ad7524f0fcd53e53c08e7b0fce3752b43f84f36e9a4ad502", func := "pluginhost/pluginhostlaw15.QuotaExact", spec := "quotaExact", apart := false }
def QuotaExactSaid : Prop := quotaExactRow.holds Try.pinned (OpenSpec.ofChange quotaExactSpec)

/-- ITS FALSE NEIGHBOUR: 'it returns false'. Refute it at one input. -/
def quotaExactWrong : ChangeSpec := { name := "quotaExact", fn := fun _ => fun
  | [d1, d2, d3] => { results := [.lit (.bool false)], args := [d1, d2, d3] }
  | _ => none }
def QuotaExactWrongFalsely : Prop := quotaExactRow.holds Try.pinned (OpenSpec.ofChange quotaExactWrong)

/-- 'pluginhostlaw15.QuotaBack': WHATEVER THE INPUT: true; the input reads as it did. -/
def quotaBackSpec : ChangeSpec := { name := "quotaBack", fn := fun _ => fun
  | [d1, d2] => { results := [.lit (.bool true)], args := [d1, d2] }
  | _ => none }
def quotaBackRow : OpenClaim := { program := "ytfhpdjlppblkcaa", sum := "e727d1b228883654ad7524f0fcd53e53c08e7b0fce3752b43f84f36e9a4ad502", func := "pluginhost/pluginhostlaw15.QuotaBack", spec := "quotaBack", apart := false }
def QuotaBackSaid : Prop := quotaBackRow.holds Try.pinned (OpenSpec.ofChange quotaBackSpec)

/-- ITS FALSE NEIGHBOUR: 'it returns false'. Refute it at one input. -/
def quotaBackWrong : ChangeSpec := { name := "quotaBack", fn := fun _ => fun
  | [d1, d2] => { results := [.lit (.bool false)], args := [d1, d2] }
  | _ => none }
def QuotaBackWrongFalsely : Prop := quotaBackRow.holds Try.pinned (OpenSpec.ofChange quotaBackWrong)

/-- 'pluginhostlaw15.QuotaApart': WHATEVER THE INPUT: true; the input reads as it did. -/
def quotaApartSpec : ChangeSpec := { name := "quotaApart", fn := fun _ => fun
  | [d1, d2, d3] => { results := [.lit (.bool true)], args := [d1, d2, d3] }
  | _ => none }
def quotaApartRow : OpenClaim := { program := "ytfhpdjlppblkcaa", sum := "e727d1b228883654ad7524f0fcd53e53c08e7b0fce3752b43f84f36e9a4ad502", func := "pluginhost/pluginhostlaw15.QuotaApart", spec := "quotaApart", apart := false }
def QuotaApartSaid : Prop := quotaApartRow.holds Try.pinned (OpenSpec.ofChange quotaApartSpec)

/-- ITS FALSE NEIGHBOUR: 'it returns false'. Refute it at one input. -/
def quotaApartWrong : ChangeSpec := { name := "quotaApart", fn := fun _ => fun
  | [d1, d2, d3] => { results := [.lit (.bool false)], args := [d1, d2, d3] }
  | _ => none }
def QuotaApartWrongFalsely : Prop := quotaApartRow.holds Try.pinned (OpenSpec.ofChange quotaApartWrong)

/- THE SECOND FORM. 'bulk': how many values and letters a reading holds, each counted each time it is reached (what is shared counts as often as it is met; a slice's spare places count too). A statement '..UptoSaid' is the law's where the arguments, and the package variables that the reading takes, are together of bulk at most 1048576: NARROWER than '..Said'. Prove '..Said' where nothing that the law and all that it calls make is longer than what came in: it says more and counts as full. Else prove '..UptoSaid'. A law counts once. -/
mutual
def uptoBulk {H : Type} : DataW H → Nat
  | .lit (.string bytes) => bytes.length + 1
  | .lit _ => 1
  | .nil => 1
  | .ptr d => uptoBulk d + 1
  | .slice elems spare => uptoBulkAll elems + uptoBulkAll spare + 1
  | .agg parts => uptoBulkAll parts + 1
  | .iface _ d => uptoBulk d + 1
  | .map entries => uptoBulkEntries entries + 1
  | .held _ => 1
def uptoBulkAll {H : Type} : List (DataW H) → Nat
  | [] => 0
  | d :: r => uptoBulk d + uptoBulkAll r
def uptoBulkEntries {H : Type} : List (Lit × DataW H) → Nat
  | [] => 0
  | x :: r => uptoBulkEntry x + uptoBulkEntries r
def uptoBulkEntry {H : Type} : Lit × DataW H → Nat
  | (.string bytes, d) => bytes.length + uptoBulk d + 1
  | (_, d) => uptoBulk d + 1
 end
def uptoSmall : (H : Type) → List (DataW H) → Bool := fun _ ds => decide (uptoBulkAll ds ≤ 1048576)
def OpenSpec.upto (s : _root_.Go.ChangeSpec) : _root_.Go.OpenSpec := { _root_.Go.OpenSpec.ofChange s with cond := some uptoSmall }

/-- 'pluginhostlaw15.QuotaPlays', WHERE WHAT IT READS IS OF BULK AT MOST 1048576: true; the input reads as it did. -/
def quotaPlaysUptoRow : OpenClaim := { program := "ytfhpdjlppblkcaa", sum := "e727d1b228883654ad7524f0fcd53e53c08e7b0fce3752b43f84f36e9a4ad502", func := "pluginhost/pluginhostlaw15.QuotaPlays", spec := "quotaPlays", apart := false, narrowed := true }
def QuotaPlaysUptoSaid : Prop := quotaPlaysUptoRow.holds Try.pinned (OpenSpec.upto quotaPlaysSpec)

/-- 'pluginhostlaw15.QuotaRaw', WHERE WHAT IT READS IS OF BULK AT MOST 1048576: true; the input reads as it did. -/
def quotaRawUptoRow : OpenClaim := { program := "ytfhpdjlppblkcaa", sum := "e727d1b228883654ad7524f0fcd53e53c08e7b0fce3752b43f84f36e9a4ad502", func := "pluginhost/pluginhostlaw15.QuotaRaw", spec := "quotaRaw", apart := false, narrowed := true }
def QuotaRawUptoSaid : Prop := quotaRawUptoRow.holds Try.pinned (OpenSpec.upto quotaRawSpec)

/-- 'pluginhostlaw15.QuotaExact', WHERE WHAT IT READS IS OF BULK AT MOST 1048576: true; the input reads as it did. -/
def quotaExactUptoRow : OpenClaim := { program := "ytfhpdjlppblkcaa", sum := "e727d1b228883654ad7524f0fcd53e53c08e7b0fce3752b43f84f36e9a4ad502", func := "pluginhost/pluginhostlaw15.QuotaExact", spec := "quotaExact", apart := false, narrowed := true }
def QuotaExactUptoSaid : Prop := quotaExactUptoRow.holds Try.pinned (OpenSpec.upto quotaExactSpec)

/-- 'pluginhostlaw15.QuotaBack', WHERE WHAT IT READS IS OF BULK AT MOST 1048576: true; the input reads as it did. -/
def quotaBackUptoRow : OpenClaim := { program := "ytfhpdjlppblkcaa", sum := "e727d1b228883654ad7524f0fcd53e53c08e7b0fce3752b43f84f36e9a4ad502", func := "pluginhost/pluginhostlaw15.QuotaBack", spec := "quotaBack", apart := false, narrowed := true }
def QuotaBackUptoSaid : Prop := quotaBackUptoRow.holds Try.pinned (OpenSpec.upto quotaBackSpec)

/-- 'pluginhostlaw15.QuotaApart', WHERE WHAT IT READS IS OF BULK AT MOST 1048576: true; the input reads as it did. -/
def quotaApartUptoRow : OpenClaim := { program := "ytfhpdjlppblkcaa", sum := "e727d1b228883654ad7524f0fcd53e53c08e7b0fce3752b43f84f36e9a4ad502", func := "pluginhost/pluginhostlaw15.QuotaApart", spec := "quotaApart", apart := false, narrowed := true }
def QuotaApartUptoSaid : Prop := quotaApartUptoRow.holds Try.pinned (OpenSpec.upto quotaApartSpec)

end Rows
end Go.Proofs.Ytfhpdjlppblkcaa
