/-
  No cell of these rows narrows 'for every input' (looked for: loops, veiled, ifaces, maps, wideKeys, modest, calm, conditions, laid).
  DERIVED. THE GIVEN ROWS OF THIS SEAT. 6 by the template 'for every input the law returns true; each argument reads behind the call as it read before'; 0 by the template 'total and deterministic' (their statements: YthchcgpbmkmfnaaTotals.lean).
  GIVEN WITH THE SEED: the statements are not yours to turn. If you find one false, say at which input.
  Laid BY PROGRAM, IN A SANDBOX (cutbox-rows.mjs): the forced cells as the released guide's own fill.sh prints them over the translation 95fefe61ba6b107f… (all of the seat's roots in one cut). By AI agents, Wed Nov 11 2026. No macro, syntax, notation, axiom, sorry.
-/
import Derived.Test.YthchcgpbmkmfnaaChecked
import GoSem.Claim
import GoSem.ClaimJoined
import GoSem.ClaimMapViews
import Derived.JoinedTies
import Derived.KernelRfl
namespace Go.Proofs.Ythchcgpbmkmfnaa
/- THE CELL 'sum', in the pinned program and in every row, IS THE sha256 OF THE DUMP (.gsa) THAT YthchcgpbmkmfnaaProg.lean LOADS. Nothing in Lean hashes anything: it is a label: what it is worth is what the hold of that sum in a sandbox is worth. -/
noncomputable def Try.pinned : Pinned := { name := "ythchcgpbmkmfnaa", sum := "95fefe61ba6b107f2f242e2060464293a8ab05f1991b8a9368dacff7f745d5ff", checked := Try.checked }
namespace Rows
def none {H : Type} : Left H := { results := [], args := [] }

/-- 'pluginhostlaw8.LayoutRaw': WHATEVER THE INPUT: true; the input reads as it did. -/
def layoutRawSpec : ChangeSpec := { name := "layoutRaw", fn := fun _ => fun
  | [d1, d2] => { results := [.lit (.bool true)], args := [d1, d2] }
  | _ => none }
def layoutRawRow : OpenClaim := { program := "ythchcgpbmkmfnaa", sum := "95fefe61ba6b107f2f242e2060464293a8ab05f1991b8a9368dacff7f745d5ff", func := "pluginhost/pluginhostlaw8.LayoutRaw", spec := "layoutRaw", apart := false }
def LayoutRawSaid : Prop := layoutRawRow.holds Try.pinned (OpenSpec.ofChange layoutRawSpec)

/-- ITS FALSE NEIGHBOUR: 'it returns false'. Refute it at one input. -/
def layoutRawWrong : ChangeSpec := { name := "layoutRaw", fn := fun _ => fun
  | [d1, d2] => { results := [.lit (.bool false)], args := [d1, d2] }
  | _ => none }
def LayoutRawWrongFalsely : Prop := layoutRawRow.holds Try.pinned (OpenSpec.ofChange layoutRawWrong)

/-- 'pluginhostlaw8.LayoutMade': WHATEVER THE INPUT: true; the input reads as it did. -/
def layoutMadeSpec : ChangeSpec := { name := "layoutMade", fn := fun _ => fun
  | [d1, d2, d3, d4, d5, d6] => { results := [.lit (.bool true)], args := [d1, d2, d3, d4, d5, d6] }
  | _ => none }
def layoutMadeRow : OpenClaim := { program := "ythchcgpbmkmfnaa", sum := "95fefe61ba6b107f2f242e2060464293a8ab05f1991b8a9368dacff7f745d5ff", func := "pluginhost/pluginhostlaw8.LayoutMade", spec := "layoutMade", apart := false }
def LayoutMadeSaid : Prop := layoutMadeRow.holds Try.pinned (OpenSpec.ofChange layoutMadeSpec)

/-- ITS FALSE NEIGHBOUR: 'it returns false'. Refute it at one input. -/
def layoutMadeWrong : ChangeSpec := { name := "layoutMade", fn := fun _ => fun
  | [d1, d2, d3, d4, d5, d6] => { results := [.lit (.bool false)], args := [d1, d2, d3, d4, d5, d6] }
  | _ => none }
def LayoutMadeWrongFalsely : Prop := layoutMadeRow.holds Try.pinned (OpenSpec.ofChange layoutMadeWrong)

/-- 'pluginhostlaw8.LayoutBig': WHATEVER THE INPUT: true; the input reads as it did. -/
def layoutBigSpec : ChangeSpec := { name := "layoutBig", fn := fun _ => fun
  | [d1, d2, d3] => { results := [.lit (.bool true)], args := [d1, d2, d3] }
  | _ => none }
def layoutBigRow : OpenClaim := { program := "ythchcgpbmkmfnaa", sum := "95fefe61ba6b107f2f242e2060464293a8ab05f1991b8a9368dacff7f745d5ff", func := "pluginhost/pluginhostlaw8.LayoutBig", spec := "layoutBig", apart := false }
def LayoutBigSaid : Prop := layoutBigRow.holds Try.pinned (OpenSpec.ofChange layoutBigSpec)

/-- ITS FALSE NEIGHBOUR: 'it returns false'. Refute it at one input. -/
def layoutBigWrong : ChangeSpec := { name := "layoutBig", fn := fun _ => fun
  | [d1, d2, d3] => { results := [.lit (.bool false)], args := [d1, d2, d3] }
  | _ => none }
def LayoutBigWrongFalsely : Prop := layoutBigRow.holds Try.pinned (OpenSpec.ofChange layoutBigWrong)

/-- 'pluginhostlaw8.LayoutPlaces': WHATEVER THE INPUT: true; the input reads as it did. -/
def layoutPlacesSpec : ChangeSpec := { name := "layoutPlaces", fn := fun _ => fun
  | [d] => { results := [.lit (.bool true)], args := [d] }
  | _ => none }
def layoutPlacesRow : OpenClaim := { program := "ythchcgpbmkmfnaa", sum := "95fefe61ba6b107f2f242e2060464293a8ab05f1991b8a9368dacff7f745d5ff", func := "pluginhost/pluginhostlaw8.LayoutPlaces", spec := "layoutPlaces", apart := false }
def LayoutPlacesSaid : Prop := layoutPlacesRow.holds Try.pinned (OpenSpec.ofChange layoutPlacesSpec)

/-- ITS FALSE NEIGHBOUR: 'it returns false'. Refute it at one input. -/
def layoutPlacesWrong : ChangeSpec := { name := "layoutPlaces", fn := fun _ => fun
  | [d] => { results := [.lit (.bool false)], args := [d] }
  | _ => none }
def LayoutPlacesWrongFalsely : Prop := layoutPlacesRow.holds Try.pinned (OpenSpec.ofChange layoutPlacesWrong)

/-- 'pluginhostlaw8.LayoutPrefix': WHATEVER THE INPUT: true; the input reads as it did. -/
def layoutPrefixSpec : ChangeSpec := { name := "layoutPrefix", fn := fun _ => fun
  | [d1, d2] => { results := [.lit (.bool true)], args := [d1, d2] }
  | _ => none }
def layoutPrefixRow : OpenClaim := { program := "ythchcgpbmkmfnaa", sum := "95fefe61ba6b107f2f242e2060464293a8ab05f1991b8a9368dacff7f745d5ff", func := "pluginhost/pluginhostlaw8.LayoutPrefix", spec := "layoutPrefix", apart := false }
def LayoutPrefixSaid : Prop := layoutPrefixRow.holds Try.pinned (OpenSpec.ofChange layoutPrefixSpec)

/-- ITS FALSE NEIGHBOUR: 'it returns false'. Refute it at one input. -/
def layoutPrefixWrong : ChangeSpec := { name := "layoutPrefix", fn := fun _ => fun
  | [d1, d2] => { results := [.lit (.bool false)], args := [d1, d2] }
  | _ => none }
def LayoutPrefixWrongFalsely : Prop := layoutPrefixRow.holds Try.pinned (OpenSpec.ofChange layoutPrefixWrong)

/-- 'pluginhostlaw8.LayoutArray': WHATEVER THE INPUT: true; the input reads as it did. -/
def layoutArraySpec : ChangeSpec := { name := "layoutArray", fn := fun _ => fun
  | [d1, d2, d3] => { results := [.lit (.bool true)], args := [d1, d2, d3] }
  | _ => none }
def layoutArrayRow : OpenClaim := { program := "ythchcgpbmkmfnaa", sum := "95fefe61ba6b107f2f242e2060464293a8ab05f1991b8a9368dacff7f745d5ff", func := "pluginhost/pluginhostlaw8.LayoutArray", spec := "layoutArray", apart := false }
def LayoutArraySaid : Prop := layoutArrayRow.holds Try.pinned (OpenSpec.ofChange layoutArraySpec)

/-- ITS FALSE NEIGHBOUR: 'it returns false'. Refute it at one input. -/
def layoutArrayWrong : ChangeSpec := { name := "layoutArray", fn := fun _ => fun
  | [d1, d2, d3] => { results := [.lit (.bool false)], args := [d1, d2, d3] }
  | _ => none }
def LayoutArrayWrongFalsely : Prop := layoutArrayRow.holds Try.pinned (OpenSpec.ofChange layoutArrayWrong)

/- THE SECOND FORM. 'bulk': how many values and letters a reading holds, each counted each time it is reached (what is shared counts as often as it is met; a slice's spare places count too). A statement '..UptoSaid' is the law's where the arguments, and the package variables that the reading takes, are together of bulk at most 1048576: NARROWER than '..Said'. Prove '..Said' where nothing that the law and all that it calls make is longer than what came in: it says more and counts as full. Else prove '..UptoSaid'. A law counts once. -/
mutual
def uptoBulk {H : Type} : DataW H → Nat
  | .lit (.string bytes) => bytes.length + 1
  | .lit _ => 1
  | .nil => 1
  | .ptr d => uptoBulk d + 1
  | .slice elems spare => uptoBulkAll elems + uptoBulkAll spare + 1
  | .agg parts => uptoBulkAll parts + 1
  | .iface _ d => uptoBulk d + 1
  | .map entries => uptoBulkEntries entries + 1
  | .held _ => 1
def uptoBulkAll {H : Type} : List (DataW H) → Nat
  | [] => 0
  | d :: r => uptoBulk d + uptoBulkAll r
def uptoBulkEntries {H : Type} : List (Lit × DataW H) → Nat
  | [] => 0
  | x :: r => uptoBulkEntry x + uptoBulkEntries r
def uptoBulkEntry {H : Type} : Lit × DataW H → Nat
  | (.string bytes, d) => bytes.length + uptoBulk d + 1
  | (_, d) => uptoBulk d + 1
 end
def uptoSmall : (H : Type) → List (DataW H) → Bool := fun _ ds => decide (uptoBulkAll ds ≤ 1048576)
def OpenSpec.upto (s : _root_.Go.ChangeSpec) : _root_.Go.OpenSpec := { _root_.Go.OpenSpec.ofChange s with cond := some uptoSmall }

/-- 'pluginhostlaw8.LayoutRaw', WHERE WHAT IT READS IS OF BULK AT MOST 1048576: true; the input reads as it did. -/
def layoutRawUptoRow : OpenClaim := { program := "ythchcgpbmkmfnaa", sum := "95fefe61ba6b107f2f242e2060464293a8ab05f1991b8a9368dacff7f745d5ff", func := "pluginhost/pluginhostlaw8.LayoutRaw", spec := "layoutRaw", apart := false, narrowed := true }
def LayoutRawUptoSaid : Prop := layoutRawUptoRow.holds Try.pinned (OpenSpec.upto layoutRawSpec)

/-- 'pluginhostlaw8.LayoutMade', WHERE WHAT IT READS IS OF BULK AT MOST 1048576: true; the input reads as it did. -/
def layoutMadeUptoRow : OpenClaim := { program := "ythchcgpbmkmfnaa", sum := "95fefe61ba6b107f2f242e2060464293a8ab05f1991b8a9368dacff7f745d5ff", func := "pluginhost/pluginhostlaw8.LayoutMade", spec := "layoutMade", apart := false, narrowed := true }
def LayoutMadeUptoSaid : Prop := layoutMadeUptoRow.holds Try.pinned (OpenSpec.upto layoutMadeSpec)

/-- 'pluginhostlaw8.LayoutBig', WHERE WHAT IT READS IS OF BULK AT MOST 1048576: true; the input reads as it did. -/
def layoutBigUptoRow : OpenClaim := { program := "ythchcgpbmkmfnaa", sum := "95fefe61ba6b107f2f242e2060464293a8ab05f1991b8a9368dacff7f745d5ff", func := "pluginhost/pluginhostlaw8.LayoutBig", spec := "layoutBig", apart := false, narrowed := true }
def LayoutBigUptoSaid : Prop := layoutBigUptoRow.holds Try.pinned (OpenSpec.upto layoutBigSpec)

/-- 'pluginhostlaw8.LayoutPlaces', WHERE WHAT IT READS IS OF BULK AT MOST 1048576: true; the input reads as it did. -/
def layoutPlacesUptoRow : OpenClaim := { program := "ythchcgpbmkmfnaa", sum := "95fefe61ba6b107f2f242e2060464293a8ab05f1991b8a9368dacff7f745d5ff", func := "pluginhost/pluginhostlaw8.LayoutPlaces", spec := "layoutPlaces", apart := false, narrowed := true }
def LayoutPlacesUptoSaid : Prop := layoutPlacesUptoRow.holds Try.pinned (OpenSpec.upto layoutPlacesSpec)

/-- 'pluginhostlaw8.LayoutPrefix', WHERE WHAT IT READS IS OF BULK AT MOST 1048576: true; the input reads as it did. -/
def layoutPrefixUptoRow : OpenClaim := { program := "ythchcgpbmkmfnaa", sum := "95fefe61ba6b107f2f242e2060464293a8ab05f1991b8a9368dacff7f745d5ff", func := "pluginhost/pluginhostlaw8.LayoutPrefix", spec := "layoutPrefix", apart := false, narrowed := true }
def LayoutPrefixUptoSaid : Prop := layoutPrefixUptoRow.holds Try.pinned (OpenSpec.upto layoutPrefixSpec)

/-- 'pluginhostlaw8.LayoutArray', WHERE WHAT IT READS IS OF BULK AT MOST 1048576: true; the input reads as it did. -/
def layoutArrayUptoRow : OpenClaim := { program := "ythchcgpbmkmfnaa", sum := "95fefe61ba6b107f2f242e2060464293a8ab05f1991b8a9368dacff7f745d5ff", func := "pluginhost/pluginhostlaw8.LayoutArray", spec := "layoutArray", apart := false, narrowed := true }
def LayoutArrayUptoSaid : Prop := layoutArrayUptoRow.holds Try.pinned (OpenSpec.upto layoutArraySpec)

end Rows
end Go.Proofs.Ythchcgpbmkmfnaa
