/-
  The example of the chapter, the comparison of Decode with the definition, and the comparison of events. Conditions: the bytes are bytes, at most a million.
-/
import Derived.Test.YtlgoiccekgjhnaaEvq
namespace Go.Proofs.Ytlgoiccekgjhnaa
open Go.ChangeShapes Go.WideShapes Go.ChangeAt Go.RowKit
set_option linter.unusedVariables false
set_option linter.unusedSimpArgs false
set_option maxHeartbeats 4000000
set_option maxRecDepth 100000

theorem bts_run {w : World} {B : Nat} {A : Option Addr} {n c : Nat} {l : List Int} (h : Bts w B A n c l) :
    (convert 52 9 (.slice A n c)).run Try.prog w = .ok (.string (strOfNums l)) w :=
  h.text _ _ _ Try.underlying52 Try.underlying5 Try.underlying9
theorem bts_as {w : World} {B : Nat} {A : Option Addr} {n c : Nat} {l : List Int} {T : ByteArray} (h : Bts w B A n c l) (hT : Hid (strOfNums l = T)) :
    (convert 52 9 (.slice A n c)).run Try.prog w = .ok (.string T) w := by
  rw [← hT.out]
  exact bts_run h
/-- Events are compared number by number. -/
theorem eq_ev (a b c d e x y z u v : Int) (w : World) : (Op.equalIn 10000 27 (.agg #[.int .i64 a, .int .i64 b, .int .u64 c, .int .u64 d, .int .i64 e]) (.agg #[.int .i64 x, .int .i64 y, .int .u64 z, .int .u64 u, .int .i64 v])).run Try.prog w = .ok (decide (a = x ∧ b = y ∧ c = z ∧ d = u ∧ e = v)) w := by
  have u3 := Try.underlying3
  have a3 := Try.isAgg3
  have z3 := Try.sizeOf3
  have u4 := Try.underlying24
  have a4 := Try.isAgg24
  have z4 := Try.sizeOf24
  have u5 := Try.underlying23
  have a5 := Try.isAgg23
  have z5 := Try.sizeOf23
  have u6 := Try.underlying25
  have a6 := Try.isAgg25
  have z6 := Try.sizeOf25
  rw [show (10000 : Nat) = 9999 + 1 from rfl, Op.equalIn]
  simp only [Sem.run_bind, run_underlying Try.underlying27, Result.andThen_ok]
  go_simp
  by_cases h1 : a = x <;> by_cases h2 : b = y <;> by_cases h3 : c = z <;> by_cases h4 : d = u <;> by_cases h5 : e = v <;> simp [h1, h2, h3, h4, h5]
theorem eq_ev_self (a b c d e : Int) (w : World) : (Op.equalIn 10000 27 (.agg #[.int .i64 a, .int .i64 b, .int .u64 c, .int .u64 d, .int .i64 e]) (.agg #[.int .i64 a, .int .i64 b, .int .u64 c, .int .u64 d, .int .i64 e])).run Try.prog w = .ok true w := by
  have := eq_ev a b c d e a b c d e w
  simpa using this
theorem aw16_facts : encO 1 2 0 0 11 = [1, 2, 0, 0, 11] ∧ chkV 1 2 11 = 0 := by
  have h : chkV 1 2 11 = 0 := by decide
  refine ⟨?_, h⟩
  unfold encO
  rw [if_pos h]
  simp [encN, enc_small]
end Go.Proofs.Ytlgoiccekgjhnaa
