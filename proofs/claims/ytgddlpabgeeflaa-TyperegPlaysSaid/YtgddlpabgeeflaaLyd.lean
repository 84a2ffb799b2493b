/-
  Contracts of package layout as it landed: Count, Size, Place; all four together. Conditions: at most forty fields.
-/
import Derived.Test.YtgddlpabgeeflaaLyc
namespace Go.Proofs.Ytgddlpabgeeflaa
open Go.ChangeShapes Go.WideShapes Go.RowKit
set_option linter.unusedVariables false
set_option maxHeartbeats 8000000
set_option maxRecDepth 100000

theorem chk_ok {n : Int} {l : List (Int × Int)} (h : chk n l = 0) : ckc n l.length = 0 ∧ (∀ f ∈ l, errF f = 0) ∧ szt n l = szc n l ∧ cnt n l = ctc n l.length := by
  have hs : szt n l = szc n l := by unfold szt szc; rw [if_pos h]
  have hc : cnt n l = ctc n l.length := by unfold cnt ctc; rw [if_pos h]
  rw [chk_is] at h
  by_cases h1 : ckc n l.length = 0
  · rw [if_pos h1] at h
    by_cases h2 : fErr l = 0
    · exact ⟨h1, fErr_0 h2, hs, hc⟩
    · rw [if_neg h2] at h; exact absurd h h2
  · rw [if_neg h1] at h; exact absurd h h1
end Go.Proofs.Ytgddlpabgeeflaa
