/-
  What a ledger is whose one object is lent once and again to one holder. No conditions beyond those that each lemma states.
-/
import Derived.Test.YtmmlelmkgnhofaaPvb
namespace Go.Proofs.Ytmmlelmkgnhofaa
open Go.ChangeShapes Go.WideShapes Go.RowKit
set_option linter.unusedVariables false
set_option linter.unusedSimpArgs false
set_option maxHeartbeats 4000000

/-- Lent i times. -/
def cl (o h : Int) (i : Nat) : List Bo := if i = 0 then [] else [⟨o, h, 1, i⟩]
section
variable {o h : Int} {i : Nat}
theorem cl_z : cl o h 0 = [] := rfl
theorem cl_s : cl o h (i + 1) = [⟨o, h, 1, (i : Int) + 1⟩] := by
  unfold cl
  rw [if_neg (by omega)]
  congr 1
theorem of_one {b : Bo} : ofL b.o [b] = [b] := by simp [ofL]
theorem has_one {b : Bo} : hasL b.o b.h [b] = some b := by simp [hasL]
theorem put_one {b z : Bo} (h1 : z.o = b.o) (h2 : z.h = b.h) : putL b [z] = [b] := by
  unfold putL
  have n1 : ¬ Blt z b := by unfold Blt; omega
  have n2 : ¬ Blt b z := by unfold Blt; omega
  simp [n1, n2]
theorem put_nil {b : Bo} : putL b [] = [b] := rfl
theorem cl_has : (hasL o h (cl o h i)).isSome = decide (0 < i) ∧ (boV (hasL o h (cl o h i))).c = (i : Int) := by
  cases i with
  | zero => exact ⟨rfl, rfl⟩
  | succ i =>
    rw [cl_s, has_one (b := ⟨o, h, 1, (i : Int) + 1⟩)]
    exact ⟨by simp, by unfold boV; simp⟩
theorem cl_lend : lendE o 1 (cl o h i) = 0 ∧ lendL o h 1 (cl o h i) = cl o h (i + 1) := by
  have he : lendE o 1 (cl o h i) = 0 := by
    cases i with
    | zero => rfl
    | succ i =>
      have hm : md o (cl o h (i + 1)) = 1 := by
        unfold md
        rw [cl_s, of_one (b := ⟨o, h, 1, (i : Int) + 1⟩)]
      unfold lendE
      rw [hm]
      rfl
  refine ⟨he, ?_⟩
  unfold lendL
  rw [if_pos he]
  cases i with
  | zero => rfl
  | succ i =>
    have hc : cnt o h (cl o h (i + 1)) = (i : Int) + 1 := by
      unfold cnt
      rw [cl_s, has_one (b := ⟨o, h, 1, (i : Int) + 1⟩)]
    rw [hc, cl_s, cl_s, put_one (b := ⟨o, h, 1, (i : Int) + 1 + 1⟩) (z := ⟨o, h, 1, (i : Int) + 1⟩) rfl rfl]
    congr 1
theorem cl_excl : lendE o 2 (cl o h (i + 1)) = 14 ∧ lendL o h 2 (cl o h (i + 1)) = cl o h (i + 1) := by
  have he : lendE o 2 (cl o h (i + 1)) = 14 := by
    have hm : md o (cl o h (i + 1)) = 1 := by
      unfold md
      rw [cl_s, of_one (b := ⟨o, h, 1, (i : Int) + 1⟩)]
    unfold lendE
    rw [hm]
    rfl
  refine ⟨he, ?_⟩
  unfold lendL
  rw [he]
  rfl
theorem cl_held : heldN h (cl o h (i + 1)) = 1 := by rw [cl_s]; simp [heldN]
theorem cl_rel : relE o h (cl o h (i + 1)) = 0 ∧ relL o h (cl o h (i + 1)) = cl o h i := by
  have hh : hasL o h (cl o h (i + 1)) = some ⟨o, h, 1, (i : Int) + 1⟩ := by rw [cl_s]; exact has_one (b := ⟨o, h, 1, (i : Int) + 1⟩)
  refine ⟨by unfold relE; rw [hh]; rfl, ?_⟩
  unfold relL
  rw [hh]
  cases i with
  | zero => simp [remL, cl_s, cl_z]
  | succ i =>
    simp only
    rw [if_neg (by omega), cl_s, cl_s, put_one (b := ⟨o, h, 1, ((i + 1 : Nat) : Int) + 1 - 1⟩) (z := ⟨o, h, 1, ((i + 1 : Nat) : Int) + 1⟩) rfl rfl]
    congr 2
    omega
theorem cl_wl (ho : Ri o) : Wl i (cl o h i) := by
  induction i with
  | zero => exact Wl.nil
  | succ i ih =>
    have := ih.lend (h := h) (m := 1) ho
    rw [cl_lend.2] at this
    exact this
theorem cx_one : lendE o 2 [] = 0 ∧ lendL o h 2 [] = [⟨o, h, 2, 1⟩] := ⟨rfl, rfl⟩
theorem cx_two : lendE o 1 [⟨o, h, 2, 1⟩] = 14 := by
  have hm : md o [⟨o, h, 2, 1⟩] = 2 := by
    unfold md
    rw [of_one (b := ⟨o, h, 2, 1⟩)]
  unfold lendE
  rw [hm]
  rfl
theorem cx_wl (ho : Ri o) : Wl 1 [⟨o, h, 2, 1⟩] := by
  have := (Wl.nil (N := 0)).lend (o := o) (h := h) (m := 2) ho
  rw [cx_one.2] at this
  exact this
theorem rel_nil : relE o h [] = 13 ∧ relL o h [] = [] ∧ heldN h [] = 0 := ⟨rfl, rfl, rfl⟩
end
end Go.Proofs.Ytmmlelmkgnhofaa
