/-
  Contracts of the reference model's Count, Size and Place of types. Conditions: at most forty fields.
-/
import Derived.Test.YtgddlpabgeeflaaLaC
namespace Go.Proofs.Ytgddlpabgeeflaa
open Go.ChangeShapes Go.WideShapes Go.RowKit
set_option linter.unusedVariables false
set_option maxHeartbeats 8000000
set_option maxRecDepth 100000

/-- A box with a place. -/
def PlB (w : World) (b : Nat) (x y z : Int) : Prop := w.heap[b]? = some (.cells #[.int .i64 x, .int .i64 y, .int .i64 z] 81 (0, 0))
section
variable {w w' : World} {b : Nat} {x y z : Int}
theorem PlB.new : PlB (w.alloc (.cells #[.int .i64 x, .int .i64 y, .int .i64 z] 81)) w.heap.size x y z := heap_alloc_new w _
theorem PlB.lt (h : PlB w b x y z) : b < w.heap.size := (Array.getElem?_eq_some_iff.1 h).1
theorem PlB.go (h : PlB w b x y z) (hb : Below w.heap.size w w') : PlB w' b x y z := (hb.block b h.lt).trans h
theorem PlB.cell0 (h : PlB w b x y z) : w.cell? ⟨b, 0, none⟩ = some (.int .i64 x) := cell_of_row w b 0 _ _ _ h
theorem PlB.cell1 (h : PlB w b x y z) : w.cell? ⟨b, 1, none⟩ = some (.int .i64 y) := cell_of_row w b 1 _ _ _ h
theorem PlB.cell2 (h : PlB w b x y z) : w.cell? ⟨b, 2, none⟩ = some (.int .i64 z) := cell_of_row w b 2 _ _ _ h
theorem PlB.fr (h : PlB w b x y z) (j : Nat) : w.frozen? ⟨b, j, none⟩ = false := frozen_of_row w b j _ _ h
theorem PlB.set (h : PlB w b x y z) (x' y' z' : Int) : PlB (((w.setCell ⟨b, 0, none⟩ (.int .i64 x')).setCell ⟨b, 1, none⟩ (.int .i64 y')).setCell ⟨b, 2, none⟩ (.int .i64 z')) b x' y' z' := by
  exact heap_setCell_same _ b 2 _ _ _ (heap_setCell_same _ b 1 _ _ _ (heap_setCell_same w b 0 _ _ _ h))
theorem below_set3 {B : Nat} (h : Below B w w') (hB : B ≤ b) (u0 u1 u2 : Value) : Below B w (((w'.setCell ⟨b, 0, none⟩ u0).setCell ⟨b, 1, none⟩ u1).setCell ⟨b, 2, none⟩ u2) :=
  ((h.setCell (p := ⟨b, 0, none⟩) hB u0).setCell (p := ⟨b, 1, none⟩) hB u1).setCell (p := ⟨b, 2, none⟩) hB u2
end
/-- A place, as a value. -/
def plv (p : Int × Int × Int) : Value := .agg #[.int .i64 p.1, .int .i64 p.2.1, .int .i64 p.2.2]
end Go.Proofs.Ytgddlpabgeeflaa
