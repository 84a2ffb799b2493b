/-
  No cell of these rows narrows 'for every input' (looked for: loops, veiled, ifaces, maps, wideKeys, modest, calm, conditions, laid).
  DERIVED. THE GIVEN ROWS OF THIS SEAT. 5 by the template 'for every input the law returns true; each argument reads behind the call as it read before'; 0 by the template 'total and deterministic' (their statements: YtgddlpabgeeflaaTotals.lean).
  GIVEN WITH THE SEED: the statements are not yours to turn. If you find one false, say at which input.
  Laid BY PROGRAM, IN A SANDBOX (cutbox-rows.mjs): the forced cells as the released guide's own fill.sh prints them over the translation 4be94a87932a29f4… (all of the seat's roots in one cut). By AI agents, Wed Nov 11 2026. No macro, syntax, notation, axiom, sorry.
-/
import Derived.Test.YtgddlpabgeeflaaChecked
import GoSem.Claim
import GoSem.ClaimJoined
import GoSem.ClaimMapViews
import Derived.JoinedTies
import Derived.KernelRfl
namespace Go.Proofs.Ytgddlpabgeeflaa
/- THE CELL 'sum', in the pinned program and in every row, IS THE sha256 OF THE DUMP (.gsa) THAT YtgddlpabgeeflaaProg.lean LOADS. Nothing in Lean hashes anything: it is a label: what it is worth is what the hold of that sum in a sandbox is worth. -/
noncomputable def Try.pinned : Pinned := { name := "ytgddlpabgeeflaa", sum := "4be94a87932a29f4a1ecc76ae13cf9446c36bebadb4c3ac9d5ab63a7b4c4c0ff", checked := Try.checked }
namespace Rows
def none {H : Type} : Left H := { results := [], args := [] }

/-- 'pluginhostlaw10.TyperegPlays': WHATEVER THE INPUT: true; the input reads as it did. -/
def typeregPlaysSpec : ChangeSpec := { name := "typeregPlays", fn := fun _ => fun
  | [d1, d2, d3] => { results := [.lit (.bool true)], args := [d1, d2, d3] }
  | _ => none }
def typeregPlaysRow : OpenClaim := { program := "ytgddlpabgeeflaa", sum := "4be94a87932a29f4a1ecc76ae13cf9446c36bebadb4c3ac9d5ab63a7b4c4c0ff", func := "pluginhost/pluginhostlaw10.TyperegPlays", spec := "typeregPlays", unfollowed := true, recurses := true, apart := false }
def TyperegPlaysSaid : Prop := typeregPlaysRow.holds Try.pinned (OpenSpec.ofChange typeregPlaysSpec)

/-- ITS FALSE NEIGHBOUR: 'it returns false'. Refute it at one input. -/
def typeregPlaysWrong : ChangeSpec := { name := "typeregPlays", fn := fun _ => fun
  | [d1, d2, d3] => { results := [.lit (.bool false)], args := [d1, d2, d3] }
  | _ => none }
def TyperegPlaysWrongFalsely : Prop := typeregPlaysRow.holds Try.pinned (OpenSpec.ofChange typeregPlaysWrong)

/-- 'pluginhostlaw10.TyperegFull': WHATEVER THE INPUT: true; the input reads as it did. -/
def typeregFullSpec : ChangeSpec := { name := "typeregFull", fn := fun _ => fun
  | [d1, d2] => { results := [.lit (.bool true)], args := [d1, d2] }
  | _ => none }
def typeregFullRow : OpenClaim := { program := "ytgddlpabgeeflaa", sum := "4be94a87932a29f4a1ecc76ae13cf9446c36bebadb4c3ac9d5ab63a7b4c4c0ff", func := "pluginhost/pluginhostlaw10.TyperegFull", spec := "typeregFull", unfollowed := true, recurses := true, apart := false }
def TyperegFullSaid : Prop := typeregFullRow.holds Try.pinned (OpenSpec.ofChange typeregFullSpec)

/-- ITS FALSE NEIGHBOUR: 'it returns false'. Refute it at one input. -/
def typeregFullWrong : ChangeSpec := { name := "typeregFull", fn := fun _ => fun
  | [d1, d2] => { results := [.lit (.bool false)], args := [d1, d2] }
  | _ => none }
def TyperegFullWrongFalsely : Prop := typeregFullRow.holds Try.pinned (OpenSpec.ofChange typeregFullWrong)

/-- 'pluginhostlaw10.TyperegNone': WHATEVER THE INPUT: true; the input reads as it did. -/
def typeregNoneSpec : ChangeSpec := { name := "typeregNone", fn := fun _ => fun
  | [d1, d2] => { results := [.lit (.bool true)], args := [d1, d2] }
  | _ => none }
def typeregNoneRow : OpenClaim := { program := "ytgddlpabgeeflaa", sum := "4be94a87932a29f4a1ecc76ae13cf9446c36bebadb4c3ac9d5ab63a7b4c4c0ff", func := "pluginhost/pluginhostlaw10.TyperegNone", spec := "typeregNone", unfollowed := true, recurses := true, apart := false }
def TyperegNoneSaid : Prop := typeregNoneRow.holds Try.pinned (OpenSpec.ofChange typeregNoneSpec)

/-- ITS FALSE NEIGHBOUR: 'it returns false'. Refute it at one input. -/
def typeregNoneWrong : ChangeSpec := { name := "typeregNone", fn := fun _ => fun
  | [d1, d2] => { results := [.lit (.bool false)], args := [d1, d2] }
  | _ => none }
def TyperegNoneWrongFalsely : Prop := typeregNoneRow.holds Try.pinned (OpenSpec.ofChange typeregNoneWrong)

/-- 'pluginhostlaw10.TyperegOwn': WHATEVER THE INPUT: true; the input reads as it did. -/
def typeregOwnSpec : ChangeSpec := { name := "typeregOwn", fn := fun _ => fun
  | [d1, d2] => { results := [.lit (.bool true)], args := [d1, d2] }
  | _ => none }
def typeregOwnRow : OpenClaim := { program := "ytgddlpabgeeflaa", sum := "4be94a87932a29f4a1ecc76ae13cf9446c36bebadb4c3ac9d5ab63a7b4c4c0ff", func := "pluginhost/pluginhostlaw10.TyperegOwn", spec := "typeregOwn", unfollowed := true, recurses := true, apart := false }
def TyperegOwnSaid : Prop := typeregOwnRow.holds Try.pinned (OpenSpec.ofChange typeregOwnSpec)

/-- ITS FALSE NEIGHBOUR: 'it returns false'. Refute it at one input. -/
def typeregOwnWrong : ChangeSpec := { name := "typeregOwn", fn := fun _ => fun
  | [d1, d2] => { results := [.lit (.bool false)], args := [d1, d2] }
  | _ => none }
def TyperegOwnWrongFalsely : Prop := typeregOwnRow.holds Try.pinned (OpenSpec.ofChange typeregOwnWrong)

/-- 'pluginhostlaw10.TyperegStable': WHATEVER THE INPUT: true; the input reads as it did. -/
def typeregStableSpec : ChangeSpec := { name := "typeregStable", fn := fun _ => fun
  | [d] => { results := [.lit (.bool true)], args := [d] }
  | _ => none }
def typeregStableRow : OpenClaim := { program := "ytgddlpabgeeflaa", sum := "4be94a87932a29f4a1ecc76ae13cf9446c36bebadb4c3ac9d5ab63a7b4c4c0ff", func := "pluginhost/pluginhostlaw10.TyperegStable", spec := "typeregStable", unfollowed := true, recurses := true, apart := false }
def TyperegStableSaid : Prop := typeregStableRow.holds Try.pinned (OpenSpec.ofChange typeregStableSpec)

/-- ITS FALSE NEIGHBOUR: 'it returns false'. Refute it at one input. -/
def typeregStableWrong : ChangeSpec := { name := "typeregStable", fn := fun _ => fun
  | [d] => { results := [.lit (.bool false)], args := [d] }
  | _ => none }
def TyperegStableWrongFalsely : Prop := typeregStableRow.holds Try.pinned (OpenSpec.ofChange typeregStableWrong)

/- THE SECOND FORM. 'bulk': how many values and letters a reading holds, each counted each time it is reached (what is shared counts as often as it is met; a slice's spare places count too). A statement '..UptoSaid' is the law's where the arguments, and the package variables that the reading takes, are together of bulk at most 1048576: NARROWER than '..Said'. Prove '..Said' where nothing that the law and all that it calls make is longer than what came in: it says more and counts as full. Else prove '..UptoSaid'. A law counts once. -/
mutual
def uptoBulk {H : Type} : DataW H → Nat
  | .lit (.string bytes) => bytes.length + 1
  | .lit _ => 1
  | .nil => 1
  | .ptr d => uptoBulk d + 1
  | .slice elems spare => uptoBulkAll elems + uptoBulkAll spare + 1
  | .agg parts => uptoBulkAll parts + 1
  | .iface _ d => uptoBulk d + 1
  | .map entries => uptoBulkEntries entries + 1
  | .held _ => 1
def uptoBulkAll {H : Type} : List (DataW H) → Nat
  | [] => 0
  | d :: r => uptoBulk d + uptoBulkAll r
def uptoBulkEntries {H : Type} : List (Lit × DataW H) → Nat
  | [] => 0
  | x :: r => uptoBulkEntry x + uptoBulkEntries r
def uptoBulkEntry {H : Type} : Lit × DataW H → Nat
  | (.string bytes, d) => bytes.length + uptoBulk d + 1
  | (_, d) => uptoBulk d + 1
 end
def uptoSmall : (H : Type) → List (DataW H) → Bool := fun _ ds => decide (uptoBulkAll ds ≤ 1048576)
def OpenSpec.upto (s : _root_.Go.ChangeSpec) : _root_.Go.OpenSpec := { _root_.Go.OpenSpec.ofChange s with cond := some uptoSmall }

/-- 'pluginhostlaw10.TyperegPlays', WHERE WHAT IT READS IS OF BULK AT MOST 1048576: true; the input reads as it did. -/
def typeregPlaysUptoRow : OpenClaim := { program := "ytgddlpabgeeflaa", sum := "4be94a87932a29f4a1ecc76ae13cf9446c36bebadb4c3ac9d5ab63a7b4c4c0ff", func := "pluginhost/pluginhostlaw10.TyperegPlays", spec := "typeregPlays", unfollowed := true, recurses := true, apart := false, narrowed := true }
def TyperegPlaysUptoSaid : Prop := typeregPlaysUptoRow.holds Try.pinned (OpenSpec.upto typeregPlaysSpec)

/-- 'pluginhostlaw10.TyperegFull', WHERE WHAT IT READS IS OF BULK AT MOST 1048576: true; the input reads as it did. -/
def typeregFullUptoRow : OpenClaim := { program := "ytgddlpabgeeflaa", sum := "4be94a87932a29f4a1ecc76ae13cf9446c36bebadb4c3ac9d5ab63a7b4c4c0ff", func := "pluginhost/pluginhostlaw10.TyperegFull", spec := "typeregFull", unfollowed := true, recurses := true, apart := false, narrowed := true }
def TyperegFullUptoSaid : Prop := typeregFullUptoRow.holds Try.pinned (OpenSpec.upto typeregFullSpec)

/-- 'pluginhostlaw10.TyperegNone', WHERE WHAT IT READS IS OF BULK AT MOST 1048576: true; the input reads as it did. -/
def typeregNoneUptoRow : OpenClaim := { program := "ytgddlpabgeeflaa", sum := "4be94a87932a29f4a1ecc76ae13cf9446c36bebadb4c3ac9d5ab63a7b4c4c0ff", func := "pluginhost/pluginhostlaw10.TyperegNone", spec := "typeregNone", unfollowed := true, recurses := true, apart := false, narrowed := true }
def TyperegNoneUptoSaid : Prop := typeregNoneUptoRow.holds Try.pinned (OpenSpec.upto typeregNoneSpec)

/-- 'pluginhostlaw10.TyperegOwn', WHERE WHAT IT READS IS OF BULK AT MOST 1048576: true; the input reads as it did. -/
def typeregOwnUptoRow : OpenClaim := { program := "ytgddlpabgeeflaa", sum := "4be94a87932a29f4a1ecc76ae13cf9446c36bebadb4c3ac9d5ab63a7b4c4c0ff", func := "pluginhost/pluginhostlaw10.TyperegOwn", spec := "typeregOwn", unfollowed := true, recurses := true, apart := false, narrowed := true }
def TyperegOwnUptoSaid : Prop := typeregOwnUptoRow.holds Try.pinned (OpenSpec.upto typeregOwnSpec)

/-- 'pluginhostlaw10.TyperegStable', WHERE WHAT IT READS IS OF BULK AT MOST 1048576: true; the input reads as it did. -/
def typeregStableUptoRow : OpenClaim := { program := "ytgddlpabgeeflaa", sum := "4be94a87932a29f4a1ecc76ae13cf9446c36bebadb4c3ac9d5ab63a7b4c4c0ff", func := "pluginhost/pluginhostlaw10.TyperegStable", spec := "typeregStable", unfollowed := true, recurses := true, apart := false, narrowed := true }
def TyperegStableUptoSaid : Prop := typeregStableUptoRow.holds Try.pinned (OpenSpec.upto typeregStableSpec)

end Rows
end Go.Proofs.Ytgddlpabgeeflaa
