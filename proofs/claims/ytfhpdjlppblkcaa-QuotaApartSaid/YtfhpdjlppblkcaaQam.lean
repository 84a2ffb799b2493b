/-
  The law's own amounts, and the example of the chapter. No conditions.
-/
import Derived.Test.YtfhpdjlppblkcaaQtw
namespace Go.Proofs.Ytfhpdjlppblkcaa
open Go.ChangeShapes Go.WideShapes Go.ChangeAt Go.RowKit
set_option linter.unusedVariables false
set_option linter.unusedSimpArgs false
set_option maxHeartbeats 4000000
set_option maxRecDepth 100000

/-- What amount returns. -/
def amt (x2 x3 x4 : Int) : Q3 := ⟨x2 % 40 - x2 / 250, x3 % 3 - x3 / 250, x4 % 3 - x4 / 250⟩
def by5 (x0 x1 x2 x3 x4 : Int) : Value := .agg #[.int .u8 x0, .int .u8 x1, .int .u8 x2, .int .u8 x3, .int .u8 x4]
theorem amount_any (x0 x1 x2 x3 x4 : Int) (h2 : 0 ≤ x2 ∧ x2 ≤ 255) (h3 : 0 ≤ x3 ∧ x3 ≤ 255) (h4 : 0 ≤ x4 ∧ x4 ≤ 255) (w : World) : Calls Try.prog 21 #[by5 x0 x1 x2 x3 x4] w fun e w' => e = .returned (amt x2 x3 x4).val ∧ Below w.heap.size w w' := by
  unfold by5 amt Q3.val
  simp only
  have a2 := Int.emod_nonneg x2 (show (40 : Int) ≠ 0 by omega)
  have a3 := Int.emod_nonneg x3 (show (3 : Int) ≠ 0 by omega)
  have a4 := Int.emod_nonneg x4 (show (3 : Int) ≠ 0 by omega)
  have b2 := Int.emod_lt_of_pos x2 (show (0 : Int) < 40 by omega)
  have b3 := Int.emod_lt_of_pos x3 (show (0 : Int) < 3 by omega)
  have b4 := Int.emod_lt_of_pos x4 (show (0 : Int) < 3 by omega)
  go_enter Try.func21, Try.ntmps21
  go_wp2
  have HB : Hid (Below w.heap.size w ((w.alloc (.cells #[.int .u8 x0, .int .u8 x1, .int .u8 x2, .int .u8 x3, .int .u8 x4] 33)).alloc (.cells #[.int .i64 (x2 % 40 - x2 / 250), .int .i64 (x3 % 3 - x3 / 250), .int .i64 (x4 % 3 - x4 / 250)] 25))) := Lib.hid (((Below.refl _ _).alloc (Nat.le_refl _) _).alloc (by simp) _)
  obtain ⟨k0, k1, k2⟩ := new3 (w.alloc (.cells #[.int .u8 x0, .int .u8 x1, .int .u8 x2, .int .u8 x3, .int .u8 x4] 33)) (.int .i64 (x2 % 40 - x2 / 250)) (.int .i64 (x3 % 3 - x3 / 250)) (.int .i64 (x4 % 3 - x4 / 250)) 25
  rw [show (w.alloc (.cells #[.int .u8 x0, .int .u8 x1, .int .u8 x2, .int .u8 x3, .int .u8 x4] 33)).heap.size = w.heap.size + 1 by simp] at k0 k1 k2
  exact bodyPost_ret (v := .agg #[.int .i64 (x2 % 40 - x2 / 250), .int .i64 (x3 % 3 - x3 / 250), .int .i64 (x4 % 3 - x4 / 250)]) (by simp [results, Try.results21, go_sem, k0, k1, k2]) rfl ⟨rfl, HB.out⟩
end Go.Proofs.Ytfhpdjlppblkcaa
