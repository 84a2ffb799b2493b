/-
  No cell of these rows narrows 'for every input' (looked for: loops, veiled, ifaces, maps, wideKeys, modest, calm, conditions, laid).
  DERIVED. THE GIVEN ROWS OF THIS SEAT. 4 by the template 'for every input the law returns true; each argument reads behind the call as it read before'; 0 by the template 'total and deterministic' (their statements: YtmfggknbhhagbaaTotals.lean).
  GIVEN WITH THE SEED: the statements are not yours to turn. If you find one false, say at which input.
  Laid BY PROGRAM, IN A SANDBOX (cutbox-rows.mjs): the forced cells as the released guide's own fill.sh prints them over the translation 68220cd76d29e6aa… (all of the seat's roots in one cut). By AI agents, Wed Nov 11 2026. No macro, syntax, notation, axiom, sorry.
-/
import Derived.Test.YtmfggknbhhagbaaChecked
import GoSem.Claim
import GoSem.ClaimJoined
import GoSem.ClaimMapViews
import Derived.JoinedTies
import Derived.KernelRfl
namespace Go.Proofs.Ytmfggknbhhagbaa
/- THE CELL 'sum', in the pinned program and in every row, IS THE sha256 OF THE DUMP (.gsa) THAT YtmfggknbhhagbaaProg.lean LOADS. Nothing in Lean hashes anything: it is a label: what it is worth is what the hold of that sum in a sandbox is worth. -/
noncomputable def Try.pinned : Pinned := { name := "ytmfggknbhhagbaa", sum := "68220cd76d29e6aaa486193463d3ea225c229300f76938fde44687f81d0c12ea", checked := Try.checked }
namespace Rows
def none {H : Type} : Left H := { results := [], args := [] }

/-- 'pluginhostlaw5.SizeclassRound': WHATEVER THE INPUT: true; the input reads as it did. -/
def sizeclassRoundSpec : ChangeSpec := { name := "sizeclassRound", fn := fun _ => fun
  | [d1, d2] => { results := [.lit (.bool true)], args := [d1, d2] }
  | _ => none }
def sizeclassRoundRow : OpenClaim := { program := "ytmfggknbhhagbaa", sum := "68220cd76d29e6aaa486193463d3ea225c229300f76938fde44687f81d0c12ea", func := "pluginhost/pluginhostlaw5.SizeclassRound", spec := "sizeclassRound", unfollowed := true, recurses := true, apart := false }
def SizeclassRoundSaid : Prop := sizeclassRoundRow.holds Try.pinned (OpenSpec.ofChange sizeclassRoundSpec)

/-- ITS FALSE NEIGHBOUR: 'it returns false'. Refute it at one input. -/
def sizeclassRoundWrong : ChangeSpec := { name := "sizeclassRound", fn := fun _ => fun
  | [d1, d2] => { results := [.lit (.bool false)], args := [d1, d2] }
  | _ => none }
def SizeclassRoundWrongFalsely : Prop := sizeclassRoundRow.holds Try.pinned (OpenSpec.ofChange sizeclassRoundWrong)

/-- 'pluginhostlaw5.SizeclassSizes': WHATEVER THE INPUT: true; the input reads as it did. -/
def sizeclassSizesSpec : ChangeSpec := { name := "sizeclassSizes", fn := fun _ => fun
  | [d] => { results := [.lit (.bool true)], args := [d] }
  | _ => none }
def sizeclassSizesRow : OpenClaim := { program := "ytmfggknbhhagbaa", sum := "68220cd76d29e6aaa486193463d3ea225c229300f76938fde44687f81d0c12ea", func := "pluginhost/pluginhostlaw5.SizeclassSizes", spec := "sizeclassSizes", unfollowed := true, recurses := true, apart := false }
def SizeclassSizesSaid : Prop := sizeclassSizesRow.holds Try.pinned (OpenSpec.ofChange sizeclassSizesSpec)

/-- ITS FALSE NEIGHBOUR: 'it returns false'. Refute it at one input. -/
def sizeclassSizesWrong : ChangeSpec := { name := "sizeclassSizes", fn := fun _ => fun
  | [d] => { results := [.lit (.bool false)], args := [d] }
  | _ => none }
def SizeclassSizesWrongFalsely : Prop := sizeclassSizesRow.holds Try.pinned (OpenSpec.ofChange sizeclassSizesWrong)

/-- 'pluginhostlaw5.SizeclassLeast': WHATEVER THE INPUT: true; the input reads as it did. -/
def sizeclassLeastSpec : ChangeSpec := { name := "sizeclassLeast", fn := fun _ => fun
  | [d] => { results := [.lit (.bool true)], args := [d] }
  | _ => none }
def sizeclassLeastRow : OpenClaim := { program := "ytmfggknbhhagbaa", sum := "68220cd76d29e6aaa486193463d3ea225c229300f76938fde44687f81d0c12ea", func := "pluginhost/pluginhostlaw5.SizeclassLeast", spec := "sizeclassLeast", unfollowed := true, recurses := true, apart := false }
def SizeclassLeastSaid : Prop := sizeclassLeastRow.holds Try.pinned (OpenSpec.ofChange sizeclassLeastSpec)

/-- ITS FALSE NEIGHBOUR: 'it returns false'. Refute it at one input. -/
def sizeclassLeastWrong : ChangeSpec := { name := "sizeclassLeast", fn := fun _ => fun
  | [d] => { results := [.lit (.bool false)], args := [d] }
  | _ => none }
def SizeclassLeastWrongFalsely : Prop := sizeclassLeastRow.holds Try.pinned (OpenSpec.ofChange sizeclassLeastWrong)

/-- 'pluginhostlaw5.SizeclassOrder': WHATEVER THE INPUT: true; the input reads as it did. -/
def sizeclassOrderSpec : ChangeSpec := { name := "sizeclassOrder", fn := fun _ => fun
  | [d1, d2] => { results := [.lit (.bool true)], args := [d1, d2] }
  | _ => none }
def sizeclassOrderRow : OpenClaim := { program := "ytmfggknbhhagbaa", sum := "68220cd76d29e6aaa486193463d3ea225c229300f76938fde44687f81d0c12ea", func := "pluginhost/pluginhostlaw5.SizeclassOrder", spec := "sizeclassOrder", unfollowed := true, recurses := true, apart := false }
def SizeclassOrderSaid : Prop := sizeclassOrderRow.holds Try.pinned (OpenSpec.ofChange sizeclassOrderSpec)

/-- ITS FALSE NEIGHBOUR: 'it returns false'. Refute it at one input. -/
def sizeclassOrderWrong : ChangeSpec := { name := "sizeclassOrder", fn := fun _ => fun
  | [d1, d2] => { results := [.lit (.bool false)], args := [d1, d2] }
  | _ => none }
def SizeclassOrderWrongFalsely : Prop := sizeclassOrderRow.holds Try.pinned (OpenSpec.ofChange sizeclassOrderWrong)

/- THE SECOND FORM. 'bulk': how many values and letters a reading holds, each counted each time it is reached (what is shared counts as often as it is met; a slice's spare places count too). A statement '..UptoSaid' is the law's where the arguments, and the package variables that the reading takes, are together of bulk at most 1048576: NARROWER than '..Said'. Prove '..Said' where nothing that the law and all that it calls make is longer than what came in: it says more and counts as full. Else prove '..UptoSaid'. A law counts once. -/
mutual
def uptoBulk {H : Type} : DataW H → Nat
  | .lit (.string bytes) => bytes.length + 1
  | .lit _ => 1
  | .nil => 1
  | .ptr d => uptoBulk d + 1
  | .slice elems spare => uptoBulkAll elems + uptoBulkAll spare + 1
  | .agg parts => uptoBulkAll parts + 1
  | .iface _ d => uptoBulk d + 1
  | .map entries => uptoBulkEntries entries + 1
  | .held _ => 1
def uptoBulkAll {H : Type} : List (DataW H) → Nat
  | [] => 0
  | d :: r => uptoBulk d + uptoBulkAll r
def uptoBulkEntries {H : Type} : List (Lit × DataW H) → Nat
  | [] => 0
  | x :: r => uptoBulkEntry x + uptoBulkEntries r
def uptoBulkEntry {H : Type} : Lit × DataW H → Nat
  | (.string bytes, d) => bytes.length + uptoBulk d + 1
  | (_, d) => uptoBulk d + 1
 end
def uptoSmall : (H : Type) → List (DataW H) → Bool := fun _ ds => decide (uptoBulkAll ds ≤ 1048576)
def OpenSpec.upto (s : _root_.Go.ChangeSpec) : _root_.Go.OpenSpec := { _root_.Go.OpenSpec.ofChange s with cond := some uptoSmall }

/-- 'pluginhostlaw5.SizeclassRound', WHERE WHAT IT READS IS OF BULK AT MOST 1048576: true; the input reads as it did. -/
def sizeclassRoundUptoRow : OpenClaim := { program := "ytmfggknbhhagbaa", sum := "68220cd76d29e6aaa486193463d3ea225c229300f76938fde44687f81d0c12ea", func := "pluginhost/pluginhostlaw5.SizeclassRound", spec := "sizeclassRound", unfollowed := true, recurses := true, apart := false, narrowed := true }
def SizeclassRoundUptoSaid : Prop := sizeclassRoundUptoRow.holds Try.pinned (OpenSpec.upto sizeclassRoundSpec)

/-- 'pluginhostlaw5.SizeclassSizes', WHERE WHAT IT READS IS OF BULK AT MOST 1048576: true; the input reads as it did. -/
def sizeclassSizesUptoRow : OpenClaim := { program := "ytmfggknbhhagbaa", sum := "68220cd76d29e6aaa486193463d3ea225c229300f76938fde44687f81d0c12ea", func := "pluginhost/pluginhostlaw5.SizeclassSizes", spec := "sizeclassSizes", unfollowed := true, recurses := true, apart := false, narrowed := true }
def SizeclassSizesUptoSaid : Prop := sizeclassSizesUptoRow.holds Try.pinned (OpenSpec.upto sizeclassSizesSpec)

/-- 'pluginhostlaw5.SizeclassLeast', WHERE WHAT IT READS IS OF BULK AT MOST 1048576: true; the input reads as it did. -/
def sizeclassLeastUptoRow : OpenClaim := { program := "ytmfggknbhhagbaa", sum := "68220cd76d29e6aaa486193463d3ea225c229300f76938fde44687f81d0c12ea", func := "pluginhost/pluginhostlaw5.SizeclassLeast", spec := "sizeclassLeast", unfollowed := true, recurses := true, apart := false, narrowed := true }
def SizeclassLeastUptoSaid : Prop := sizeclassLeastUptoRow.holds Try.pinned (OpenSpec.upto sizeclassLeastSpec)

/-- 'pluginhostlaw5.SizeclassOrder', WHERE WHAT IT READS IS OF BULK AT MOST 1048576: true; the input reads as it did. -/
def sizeclassOrderUptoRow : OpenClaim := { program := "ytmfggknbhhagbaa", sum := "68220cd76d29e6aaa486193463d3ea225c229300f76938fde44687f81d0c12ea", func := "pluginhost/pluginhostlaw5.SizeclassOrder", spec := "sizeclassOrder", unfollowed := true, recurses := true, apart := false, narrowed := true }
def SizeclassOrderUptoSaid : Prop := sizeclassOrderUptoRow.holds Try.pinned (OpenSpec.upto sizeclassOrderSpec)

end Rows
end Go.Proofs.Ytmfggknbhhagbaa
