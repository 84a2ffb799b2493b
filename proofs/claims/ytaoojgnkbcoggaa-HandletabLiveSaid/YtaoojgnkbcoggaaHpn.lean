/-
  Facts that several laws of this stage use: which numbers New accepts, the cells of a box of four numbers, an element's type. No conditions beyond those that each lemma states.
-/
import Derived.Test.YtaoojgnkbcoggaaHtr
namespace Go.Proofs.Ytaoojgnkbcoggaa
open Go.ChangeShapes Go.WideShapes Go.RowKit
set_option linter.unusedVariables false
set_option maxHeartbeats 4000000

theorem ns_ok {n first : Int} (h : 0 ≤ n ∧ n ≤ 4096) (h' : 1 ≤ first ∧ first ≤ 4294967295) : nsE n first = 0 := if_neg (by omega)
theorem infoHn : (Try.prog.info? 39).map (fun i => (i.zero, i.size, i.bytes)) = some (some (.int .u64 0), 1, 8) := by kernel_rfl
/-- The box of the step's numbers. -/
def Bx4 (w : World) (b : Nat) (x0 x1 x2 x3 : Int) : Prop := w.heap[b]? = some (.cells #[.int .u16 x0, .int .u16 x1, .int .u16 x2, .int .u16 x3] 36 (0, 0))
theorem Bx4.cells {w : World} {b : Nat} {x0 x1 x2 x3 : Int} (h : Bx4 w b x0 x1 x2 x3) : w.cell? ⟨b, 0, none⟩ = some (.int .u16 x0) ∧ w.cell? ⟨b, 1, none⟩ = some (.int .u16 x1) ∧ w.cell? ⟨b, 2, none⟩ = some (.int .u16 x2) ∧ w.cell? ⟨b, 3, none⟩ = some (.int .u16 x3) :=
  ⟨cell_of_row w b 0 _ _ _ h, cell_of_row w b 1 _ _ _ h, cell_of_row w b 2 _ _ _ h, cell_of_row w b 3 _ _ _ h⟩
end Go.Proofs.Ytaoojgnkbcoggaa
