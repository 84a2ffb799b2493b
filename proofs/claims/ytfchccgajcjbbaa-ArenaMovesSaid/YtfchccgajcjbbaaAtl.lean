/-
  Plain facts on what is written and read again, on the sizes of small allocations, and on lists of zeros. No conditions beyond those that each lemma states.
-/
import Derived.Test.YtfchccgajcjbbaaArnF
namespace Go.Proofs.Ytfchccgajcjbbaa
open Go.ChangeShapes Go.WideShapes Go.ChangeAt Go.RowKit
set_option maxHeartbeats 4000000
set_option maxRecDepth 100000

/-- What was written is there. -/
theorem pt_sub {bs l : List Int} {o i m : Nat} (h : o + l.length ≤ bs.length) (hm : i + m ≤ l.length) : ((pt bs o l).drop (o + i)).take m = (l.drop i).take m := by
  refine List.ext_getElem? fun j => ?_
  by_cases hj : j < m
  · have h1 := pt_getD (l := l) (bs := bs) (o := o) (i := o + i + j)
    rw [if_pos ⟨by omega, by omega, by omega⟩, show o + i + j - o = i + j by omega] at h1
    have e1 : o + i + j < (pt bs o l).length := by rw [pt_len]; omega
    have e2 : i + j < l.length := by omega
    simp only [List.getD, List.getElem?_eq_getElem e1, List.getElem?_eq_getElem e2, Option.getD_some] at h1
    simp only [List.getElem?_take, hj, if_true, List.getElem?_drop, List.getElem?_eq_getElem e1, List.getElem?_eq_getElem e2, h1]
  · simp [List.getElem?_take, hj]
theorem pt_all {bs l : List Int} {o : Nat} (h : o + l.length ≤ bs.length) : ((pt bs o l).drop o).take l.length = l := by
  have := pt_sub (i := 0) (m := l.length) h (by omega)
  simpa using this
theorem er_small {z : Int} (h1 : 1 ≤ z) (h2 : z ≤ 300) : erR z = 0 := (mid_R h1 (by omega)).2.2
theorem cls_of {z c : Int} {k : Nat} (h1 : z ≤ sz (k + 1)) (h2 : sz k = c) (h3 : c < z) : IsCls z (k + 1) :=
  ⟨h1, fun j hj => by have := sz_le (j := j) (k := k) (by omega); omega⟩
theorem sz_small {z : Int} (h1 : 1 ≤ z) (h2 : z ≤ 64) : ∃ s, szR z = s ∧ z ≤ s ∧ s ≤ 64 ∧ 0 < s := by
  have e0 : sz 0 = 16 := by decide
  have e1 : sz 1 = 32 := by decide
  have e2 : sz 2 = 48 := by decide
  have e3 : sz 3 = 64 := by decide
  by_cases h : z ≤ 16
  · exact ⟨sz 0, szR_is (k := 0) h1 (by omega) ⟨by omega, fun j hj => by omega⟩, by omega, by omega, by omega⟩
  · by_cases h' : z ≤ 32
    · exact ⟨sz 1, szR_is (k := 1) h1 (by omega) (cls_of (k := 0) (by simpa using (by omega : z ≤ sz 1)) e0 (by omega)), by omega, by omega, by omega⟩
    · by_cases h'' : z ≤ 48
      · exact ⟨sz 2, szR_is (k := 2) h1 (by omega) (cls_of (k := 1) (by simpa using (by omega : z ≤ sz 2)) e1 (by omega)), by omega, by omega, by omega⟩
      · exact ⟨sz 3, szR_is (k := 3) h1 (by omega) (cls_of (k := 2) (by simpa using (by omega : z ≤ sz 3)) e2 (by omega)), by omega, by omega, by omega⟩
/-- A small allocation in an arena that is whole. -/
theorem ch_whole {n z : Int} (h1 : 1 ≤ z) (h2 : z ≤ 64) (hn : 64 ≤ n) : ∃ s, chR [(0, n)] z = ((0, s), 0) ∧ z ≤ s ∧ s ≤ 64 ∧ 0 < s := by
  obtain ⟨s, hs, h3, h4, h5⟩ := sz_small h1 h2
  refine ⟨s, ?_, h3, h4, h5⟩
  unfold chR
  rw [if_pos (er_small h1 (by omega)), hs]
  have hb : best s [(0, n)] = some (0, n) := by
    simp [best, bstep]
    omega
  rw [hb]
theorem ch_two {F : List (Int × Int)} {z : Int} (he : erR z = 0) : (best (szR z) F = none ∧ chR F z = ((0, 0), 18)) ∨ ∃ y, best (szR z) F = some y ∧ chR F z = ((y.1, szR z), 0) := by
  unfold chR
  rw [if_pos he]
  cases hb : best (szR z) F with
  | none => exact .inl ⟨rfl, rfl⟩
  | some y => exact .inr ⟨y, rfl, rfl⟩
theorem and255_64 (x : Int) (h0 : 0 ≤ x) (h1 : x < 18446744073709551616) : bits .and .u64 x 255 = x % 256 := by
  rw [u64_and x 255 h0 h1 (by decide) (by decide)]
  rw [show ((255 : Int).toNat) = 2 ^ 8 - 1 by decide, Nat.and_two_pow_sub_one_eq_mod]
  omega
theorem by8_at {v : Int} : ∀ {n i : Nat}, i < n → (by8 v n).getD i 0 = v / 256 ^ i % 256
  | n + 1, i, h => by
    rw [by8]
    by_cases hi : i < n
    · have := by8_at (v := v) hi
      simp only [List.getD] at this ⊢
      rw [List.getElem?_append_left (by rw [by8_len]; exact hi)]
      exact this
    · obtain rfl : i = n := by omega
      simp only [List.getD]
      rw [List.getElem?_append_right (by rw [by8_len]; omega), by8_len]
      simp
theorem le_one {l : List Int} {i : Nat} (h : i < l.length) : le ((l.drop i).take 1) = l.getD i 0 := by
  rw [List.drop_eq_getElem_cons h, List.take_succ_cons, List.take_zero, le, le]
  simp [List.getD, h]
end Go.Proofs.Ytfchccgajcjbbaa
