/-
  No cell of these rows narrows 'for every input' (looked for: loops, veiled, ifaces, maps, wideKeys, modest, calm, conditions, laid).
  DERIVED. THE GIVEN ROWS OF THIS SEAT. 7 by the template 'for every input the law returns true; each argument reads behind the call as it read before'; 0 by the template 'total and deterministic' (their statements: YtmmlelmkgnhofaaTotals.lean).
  GIVEN WITH THE SEED: the statements are not yours to turn. If you find one false, say at which input.
  Laid BY PROGRAM, IN A SANDBOX (cutbox-rows.mjs): the forced cells as the released guide's own fill.sh prints them over the translation 9e73cbb793bf94e8… (all of the seat's roots in one cut). By AI agents, Wed Nov 11 2026. No macro, syntax, notation, axiom, sorry.
-/
import Derived.Test.YtmmlelmkgnhofaaChecked
import GoSem.Claim
import GoSem.ClaimJoined
import GoSem.ClaimMapViews
import Derived.JoinedTies
import Derived.KernelRfl
namespace Go.Proofs.Ytmmlelmkgnhofaa
/- THE CELL 'sum', in the pinned program and in every row, IS THE sha256 OF THE DUMP (.gsa) THAT YtmmlelmkgnhofaaProg.lean LOADS. Nothing in Lean hashes anything: it is a label: what it is worth is what the hold of that sum in a sandbox is worth. -/
noncomputable def Try.pinned : Pinned := { name := "ytmmlelmkgnhofaa", sum := "9e73cbb793bf94e8f82a89fb84200582198087c91ec863c1291746542f228030", checked := Try.checked }
namespace Rows
def none {H : Type} : Left H := { results := [], args := [] }

/-- 'pluginhostlaw14.BorrowPlays': WHATEVER THE INPUT: true; the input reads as it did. -/
def borrowPlaysSpec : ChangeSpec := { name := "borrowPlays", fn := fun _ => fun
  | [d] => { results := [.lit (.bool true)], args := [d] }
  | _ => none }
def borrowPlaysRow : OpenClaim := { program := "ytmmlelmkgnhofaa", sum := "9e73cbb793bf94e8f82a89fb84200582198087c91ec863c1291746542f228030", func := "pluginhost/pluginhostlaw14.BorrowPlays", spec := "borrowPlays", inPlace := ["slices.overlaps[pluginhost/api.Borrow]"], unfollowed := true, recurses := true, apart := false }
def BorrowPlaysSaid : Prop := borrowPlaysRow.holds Try.pinned (OpenSpec.ofChange borrowPlaysSpec)

/-- ITS FALSE NEIGHBOUR: 'it returns false'. Refute it at one input. -/
def borrowPlaysWrong : ChangeSpec := { name := "borrowPlays", fn := fun _ => fun
  | [d] => { results := [.lit (.bool false)], args := [d] }
  | _ => none }
def BorrowPlaysWrongFalsely : Prop := borrowPlaysRow.holds Try.pinned (OpenSpec.ofChange borrowPlaysWrong)

/-- 'pluginhostlaw14.BorrowRaw': WHATEVER THE INPUT: true; the input reads as it did. -/
def borrowRawSpec : ChangeSpec := { name := "borrowRaw", fn := fun _ => fun
  | [d1, d2, d3, d4, d5, d6] => { results := [.lit (.bool true)], args := [d1, d2, d3, d4, d5, d6] }
  | _ => none }
def borrowRawRow : OpenClaim := { program := "ytmmlelmkgnhofaa", sum := "9e73cbb793bf94e8f82a89fb84200582198087c91ec863c1291746542f228030", func := "pluginhost/pluginhostlaw14.BorrowRaw", spec := "borrowRaw", inPlace := ["slices.overlaps[pluginhost/api.Borrow]"], unfollowed := true, recurses := true, apart := false }
def BorrowRawSaid : Prop := borrowRawRow.holds Try.pinned (OpenSpec.ofChange borrowRawSpec)

/-- ITS FALSE NEIGHBOUR: 'it returns false'. Refute it at one input. -/
def borrowRawWrong : ChangeSpec := { name := "borrowRaw", fn := fun _ => fun
  | [d1, d2, d3, d4, d5, d6] => { results := [.lit (.bool false)], args := [d1, d2, d3, d4, d5, d6] }
  | _ => none }
def BorrowRawWrongFalsely : Prop := borrowRawRow.holds Try.pinned (OpenSpec.ofChange borrowRawWrong)

/-- 'pluginhostlaw14.BorrowExcludes': WHATEVER THE INPUT: true; the input reads as it did. -/
def borrowExcludesSpec : ChangeSpec := { name := "borrowExcludes", fn := fun _ => fun
  | [d] => { results := [.lit (.bool true)], args := [d] }
  | _ => none }
def borrowExcludesRow : OpenClaim := { program := "ytmmlelmkgnhofaa", sum := "9e73cbb793bf94e8f82a89fb84200582198087c91ec863c1291746542f228030", func := "pluginhost/pluginhostlaw14.BorrowExcludes", spec := "borrowExcludes", inPlace := ["slices.overlaps[pluginhost/api.Borrow]"], unfollowed := true, recurses := true, apart := false }
def BorrowExcludesSaid : Prop := borrowExcludesRow.holds Try.pinned (OpenSpec.ofChange borrowExcludesSpec)

/-- ITS FALSE NEIGHBOUR: 'it returns false'. Refute it at one input. -/
def borrowExcludesWrong : ChangeSpec := { name := "borrowExcludes", fn := fun _ => fun
  | [d] => { results := [.lit (.bool false)], args := [d] }
  | _ => none }
def BorrowExcludesWrongFalsely : Prop := borrowExcludesRow.holds Try.pinned (OpenSpec.ofChange borrowExcludesWrong)

/-- 'pluginhostlaw14.BorrowModes': WHATEVER THE INPUT: true; the input reads as it did. -/
def borrowModesSpec : ChangeSpec := { name := "borrowModes", fn := fun _ => fun
  | [d] => { results := [.lit (.bool true)], args := [d] }
  | _ => none }
def borrowModesRow : OpenClaim := { program := "ytmmlelmkgnhofaa", sum := "9e73cbb793bf94e8f82a89fb84200582198087c91ec863c1291746542f228030", func := "pluginhost/pluginhostlaw14.BorrowModes", spec := "borrowModes", inPlace := ["slices.overlaps[pluginhost/api.Borrow]"], unfollowed := true, recurses := true, apart := false }
def BorrowModesSaid : Prop := borrowModesRow.holds Try.pinned (OpenSpec.ofChange borrowModesSpec)

/-- ITS FALSE NEIGHBOUR: 'it returns false'. Refute it at one input. -/
def borrowModesWrong : ChangeSpec := { name := "borrowModes", fn := fun _ => fun
  | [d] => { results := [.lit (.bool false)], args := [d] }
  | _ => none }
def BorrowModesWrongFalsely : Prop := borrowModesRow.holds Try.pinned (OpenSpec.ofChange borrowModesWrong)

/-- 'pluginhostlaw14.BorrowCounts': WHATEVER THE INPUT: true; the input reads as it did. -/
def borrowCountsSpec : ChangeSpec := { name := "borrowCounts", fn := fun _ => fun
  | [d1, d2, d3] => { results := [.lit (.bool true)], args := [d1, d2, d3] }
  | _ => none }
def borrowCountsRow : OpenClaim := { program := "ytmmlelmkgnhofaa", sum := "9e73cbb793bf94e8f82a89fb84200582198087c91ec863c1291746542f228030", func := "pluginhost/pluginhostlaw14.BorrowCounts", spec := "borrowCounts", inPlace := ["slices.overlaps[pluginhost/api.Borrow]"], unfollowed := true, recurses := true, apart := false }
def BorrowCountsSaid : Prop := borrowCountsRow.holds Try.pinned (OpenSpec.ofChange borrowCountsSpec)

/-- ITS FALSE NEIGHBOUR: 'it returns false'. Refute it at one input. -/
def borrowCountsWrong : ChangeSpec := { name := "borrowCounts", fn := fun _ => fun
  | [d1, d2, d3] => { results := [.lit (.bool false)], args := [d1, d2, d3] }
  | _ => none }
def BorrowCountsWrongFalsely : Prop := borrowCountsRow.holds Try.pinned (OpenSpec.ofChange borrowCountsWrong)

/-- 'pluginhostlaw14.BorrowApart': WHATEVER THE INPUT: true; the input reads as it did. -/
def borrowApartSpec : ChangeSpec := { name := "borrowApart", fn := fun _ => fun
  | [d1, d2] => { results := [.lit (.bool true)], args := [d1, d2] }
  | _ => none }
def borrowApartRow : OpenClaim := { program := "ytmmlelmkgnhofaa", sum := "9e73cbb793bf94e8f82a89fb84200582198087c91ec863c1291746542f228030", func := "pluginhost/pluginhostlaw14.BorrowApart", spec := "borrowApart", inPlace := ["slices.overlaps[pluginhost/api.Borrow]"], unfollowed := true, recurses := true, apart := false }
def BorrowApartSaid : Prop := borrowApartRow.holds Try.pinned (OpenSpec.ofChange borrowApartSpec)

/-- ITS FALSE NEIGHBOUR: 'it returns false'. Refute it at one input. -/
def borrowApartWrong : ChangeSpec := { name := "borrowApart", fn := fun _ => fun
  | [d1, d2] => { results := [.lit (.bool false)], args := [d1, d2] }
  | _ => none }
def BorrowApartWrongFalsely : Prop := borrowApartRow.holds Try.pinned (OpenSpec.ofChange borrowApartWrong)

/-- 'pluginhostlaw14.BorrowNone': WHATEVER THE INPUT: true; the input reads as it did. -/
def borrowNoneSpec : ChangeSpec := { name := "borrowNone", fn := fun _ => fun
  | [d1, d2, d3] => { results := [.lit (.bool true)], args := [d1, d2, d3] }
  | _ => none }
def borrowNoneRow : OpenClaim := { program := "ytmmlelmkgnhofaa", sum := "9e73cbb793bf94e8f82a89fb84200582198087c91ec863c1291746542f228030", func := "pluginhost/pluginhostlaw14.BorrowNone", spec := "borrowNone", inPlace := ["slices.overlaps[pluginhost/api.Borrow]"], unfollowed := true, recurses := true, apart := false }
def BorrowNoneSaid : Prop := borrowNoneRow.holds Try.pinned (OpenSpec.ofChange borrowNoneSpec)

/-- ITS FALSE NEIGHBOUR: 'it returns false'. Refute it at one input. -/
def borrowNoneWrong : ChangeSpec := { name := "borrowNone", fn := fun _ => fun
  | [d1, d2, d3] => { results := [.lit (.bool false)], args := [d1, d2, d3] }
  | _ => none }
def BorrowNoneWrongFalsely : Prop := borrowNoneRow.holds Try.pinned (OpenSpec.ofChange borrowNoneWrong)

/- THE SECOND FORM. 'bulk': how many values and letters a reading holds, each counted each time it is reached (what is shared counts as often as it is met; a slice's spare places count too). A statement '..UptoSaid' is the law's where the arguments, and the package variables that the reading takes, are together of bulk at most 1048576: NARROWER than '..Said'. Prove '..Said' where nothing that the law and all that it calls make is longer than what came in: it says more and counts as full. Else prove '..UptoSaid'. A law counts once. -/
mutual
def uptoBulk {H : Type} : DataW H → Nat
  | .lit (.string bytes) => bytes.length + 1
  | .lit _ => 1
  | .nil => 1
  | .ptr d => uptoBulk d + 1
  | .slice elems spare => uptoBulkAll elems + uptoBulkAll spare + 1
  | .agg parts => uptoBulkAll parts + 1
  | .iface _ d => uptoBulk d + 1
  | .map entries => uptoBulkEntries entries + 1
  | .held _ => 1
def uptoBulkAll {H : Type} : List (DataW H) → Nat
  | [] => 0
  | d :: r => uptoBulk d + uptoBulkAll r
def uptoBulkEntries {H : Type} : List (Lit × DataW H) → Nat
  | [] => 0
  | x :: r => uptoBulkEntry x + uptoBulkEntries r
def uptoBulkEntry {H : Type} : Lit × DataW H → Nat
  | (.string bytes, d) => bytes.length + uptoBulk d + 1
  | (_, d) => uptoBulk d + 1
 end
def uptoSmall : (H : Type) → List (DataW H) → Bool := fun _ ds => decide (uptoBulkAll ds ≤ 1048576)
def OpenSpec.upto (s : _root_.Go.ChangeSpec) : _root_.Go.OpenSpec := { _root_.Go.OpenSpec.ofChange s with cond := some uptoSmall }

/-- 'pluginhostlaw14.BorrowPlays', WHERE WHAT IT READS IS OF BULK AT MOST 1048576: true; the input reads as it did. -/
def borrowPlaysUptoRow : OpenClaim := { program := "ytmmlelmkgnhofaa", sum := "9e73cbb793bf94e8f82a89fb84200582198087c91ec863c1291746542f228030", func := "pluginhost/pluginhostlaw14.BorrowPlays", spec := "borrowPlays", inPlace := ["slices.overlaps[pluginhost/api.Borrow]"], unfollowed := true, recurses := true, apart := false, narrowed := true }
def BorrowPlaysUptoSaid : Prop := borrowPlaysUptoRow.holds Try.pinned (OpenSpec.upto borrowPlaysSpec)

/-- 'pluginhostlaw14.BorrowRaw', WHERE WHAT IT READS IS OF BULK AT MOST 1048576: true; the input reads as it did. -/
def borrowRawUptoRow : OpenClaim := { program := "ytmmlelmkgnhofaa", sum := "9e73cbb793bf94e8f82a89fb84200582198087c91ec863c1291746542f228030", func := "pluginhost/pluginhostlaw14.BorrowRaw", spec := "borrowRaw", inPlace := ["slices.overlaps[pluginhost/api.Borrow]"], unfollowed := true, recurses := true, apart := false, narrowed := true }
def BorrowRawUptoSaid : Prop := borrowRawUptoRow.holds Try.pinned (OpenSpec.upto borrowRawSpec)

/-- 'pluginhostlaw14.BorrowExcludes', WHERE WHAT IT READS IS OF BULK AT MOST 1048576: true; the input reads as it did. -/
def borrowExcludesUptoRow : OpenClaim := { program := "ytmmlelmkgnhofaa", sum := "9e73cbb793bf94e8f82a89fb84200582198087c91ec863c1291746542f228030", func := "pluginhost/pluginhostlaw14.BorrowExcludes", spec := "borrowExcludes", inPlace := ["slices.overlaps[pluginhost/api.Borrow]"], unfollowed := true, recurses := true, apart := false, narrowed := true }
def BorrowExcludesUptoSaid : Prop := borrowExcludesUptoRow.holds Try.pinned (OpenSpec.upto borrowExcludesSpec)

/-- 'pluginhostlaw14.BorrowModes', WHERE WHAT IT READS IS OF BULK AT MOST 1048576: true; the input reads as it did. -/
def borrowModesUptoRow : OpenClaim := { program := "ytmmlelmkgnhofaa", sum := "9e73cbb793bf94e8f82a89fb84200582198087c91ec863c1291746542f228030", func := "pluginhost/pluginhostlaw14.BorrowModes", spec := "borrowModes", inPlace := ["slices.overlaps[pluginhost/api.Borrow]"], unfollowed := true, recurses := true, apart := false, narrowed := true }
def BorrowModesUptoSaid : Prop := borrowModesUptoRow.holds Try.pinned (OpenSpec.upto borrowModesSpec)

/-- 'pluginhostlaw14.BorrowCounts', WHERE WHAT IT READS IS OF BULK AT MOST 1048576: true; the input reads as it did. -/
def borrowCountsUptoRow : OpenClaim := { program := "ytmmlelmkgnhofaa", sum := "9e73cbb793bf94e8f82a89fb84200582198087c91ec863c1291746542f228030", func := "pluginhost/pluginhostlaw14.BorrowCounts", spec := "borrowCounts", inPlace := ["slices.overlaps[pluginhost/api.Borrow]"], unfollowed := true, recurses := true, apart := false, narrowed := true }
def BorrowCountsUptoSaid : Prop := borrowCountsUptoRow.holds Try.pinned (OpenSpec.upto borrowCountsSpec)

/-- 'pluginhostlaw14.BorrowApart', WHERE WHAT IT READS IS OF BULK AT MOST 1048576: true; the input reads as it did. -/
def borrowApartUptoRow : OpenClaim := { program := "ytmmlelmkgnhofaa", sum := "9e73cbb793bf94e8f82a89fb84200582198087c91ec863c1291746542f228030", func := "pluginhost/pluginhostlaw14.BorrowApart", spec := "borrowApart", inPlace := ["slices.overlaps[pluginhost/api.Borrow]"], unfollowed := true, recurses := true, apart := false, narrowed := true }
def BorrowApartUptoSaid : Prop := borrowApartUptoRow.holds Try.pinned (OpenSpec.upto borrowApartSpec)

/-- 'pluginhostlaw14.BorrowNone', WHERE WHAT IT READS IS OF BULK AT MOST 1048576: true; the input reads as it did. -/
def borrowNoneUptoRow : OpenClaim := { program := "ytmmlelmkgnhofaa", sum := "9e73cbb793bf94e8f82a89fb84200582198087c91ec863c1291746542f228030", func := "pluginhost/pluginhostlaw14.BorrowNone", spec := "borrowNone", inPlace := ["slices.overlaps[pluginhost/api.Borrow]"], unfollowed := true, recurses := true, apart := false, narrowed := true }
def BorrowNoneUptoSaid : Prop := borrowNoneUptoRow.holds Try.pinned (OpenSpec.upto borrowNoneSpec)

end Rows
end Go.Proofs.Ytmmlelmkgnhofaa
