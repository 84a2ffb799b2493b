/-
  Contracts of the functions of package handle and of the reference: each returns what the plain functions of the Math text say, and leaves the world as it is. Conditions: words are numbers from 0 up to 2^64 - 1.
-/
import Derived.Test.YtbmajggpfojnkaaDoorRows
import Derived.Test.YtbmajggpfojnkaaDoorMath
import Derived.WalkKit
import Derived.ProofKit
import Derived.OpenShut
import Derived.Outline
import Derived.WalkLawsBesides
import Derived.Lib.Hide
namespace Go.Proofs.YtbmajggpfojnkaaDoor
open Go.ChangeShapes Go.WideShapes Go.ChangeAt Go.RowKit
theorem ret_int {k : IntKind} {a b : Int} (h : a = b) : Ending.returned (.int k a) = .returned (.int k b) := by rw [h]
set_option maxHeartbeats 400000
theorem slot_any (x : Int) (h0 : 0 ≤ x) (h1 : x < 18446744073709551616) (w : World) : Calls Tryd.prog 12 #[.int .u64 x] w fun e w' => e = .returned (.int .i64 (x % 16777216)) ∧ w = w' := by
  go_enter Tryd.func12, Tryd.ntmps12
  go_wp2
  go_ret
  exact ⟨ret_int (by rw [and24 x h0 h1, w64_in _ (by omega) (by omega)]), rfl⟩
theorem gen_any (x : Int) (h0 : 0 ≤ x) (h1 : x < 18446744073709551616) (w : World) : Calls Tryd.prog 14 #[.int .u64 x] w fun e w' => e = .returned (.int .i64 (x / 16777216 % 4294967296)) ∧ w = w' := by
  go_enter Tryd.func14, Tryd.ntmps14
  go_wp2
  go_ret
  exact ⟨ret_int (by rw [and32 _ (by omega) (by omega), w64_in _ (by omega) (by omega)]), rfl⟩
theorem tag_any (x : Int) (h0 : 0 ≤ x) (h1 : x < 18446744073709551616) (w : World) : Calls Tryd.prog 16 #[.int .u64 x] w fun e w' => e = .returned (.int .i64 (x / 72057594037927936)) ∧ w = w' := by
  go_enter Tryd.func16, Tryd.ntmps16
  go_wp2
  go_ret
  exact ⟨ret_int (by rw [and8 _ (by omega) (by omega), w64_in _ (by omega) (by omega)]; omega), rfl⟩
theorem slotR_any (x : Int) (h0 : 0 ≤ x) (h1 : x < 18446744073709551616) (w : World) : Calls Tryd.prog 13 #[.int .u64 x] w fun e w' => e = .returned (.int .i64 (x % 16777216)) ∧ w = w' := by
  go_enter Tryd.func13, Tryd.ntmps13
  go_wp2
  go_ret
  exact ⟨rfl, rfl⟩
theorem genR_any (x : Int) (h0 : 0 ≤ x) (h1 : x < 18446744073709551616) (w : World) : Calls Tryd.prog 15 #[.int .u64 x] w fun e w' => e = .returned (.int .i64 (x / 16777216 % 4294967296)) ∧ w = w' := by
  go_enter Tryd.func15, Tryd.ntmps15
  go_wp2
  go_ret
  exact ⟨rfl, rfl⟩
theorem tagR_any (x : Int) (h0 : 0 ≤ x) (h1 : x < 18446744073709551616) (w : World) : Calls Tryd.prog 17 #[.int .u64 x] w fun e w' => e = .returned (.int .i64 (x / 72057594037927936)) ∧ w = w' := by
  go_enter Tryd.func17, Tryd.ntmps17
  go_wp2
  go_ret
  exact ⟨rfl, rfl⟩
theorem join_any (a b c : Int) (a0 : 0 ≤ a) (a1 : a ≤ 16777215) (b0 : 0 ≤ b) (b1 : b ≤ 4294967295) (c0 : 0 ≤ c) (c1 : c ≤ 255) (w : World) : Calls Tryd.prog 25 #[.int .u64 a, .int .u64 b, .int .u64 c] w fun e w' => e = .returned (.int .u64 (word a b c)) ∧ w = w' := by
  go_enter Tryd.func25, Tryd.ntmps25
  go_wp2
  go_ret
  exact ⟨ret_int (or_join a b c a0 a1 b0 b1 c0 c1), rfl⟩
theorem pack_ok (a b c : Int) (a0 : 0 ≤ a) (a1 : a ≤ 16777215) (b0 : 1 ≤ b) (b1 : b ≤ 4294967295) (c0 : 1 ≤ c) (c1 : c ≤ 255) (w : World) : Calls Tryd.prog 9 #[.int .i64 a, .int .i64 b, .int .i64 c] w fun e w' => e = .returned (.tuple #[.int .u64 (word a b c), .int .i64 0]) ∧ w = w' := by
  go_enter Tryd.func9, Tryd.ntmps9
  go_wp2_with (first | (go_at_call 25; refine (join_any _ _ _ (by omega) (by omega) (by omega) (by omega) (by omega) (by omega) _).mono ?_; rintro e w' ⟨rfl, rfl⟩) | go_in)
  go_ret2
  exact ⟨rfl, rfl⟩
theorem packR_any (a b c : Int) (w : World) : Calls Tryd.prog 10 #[.int .i64 a, .int .i64 b, .int .i64 c] w fun e w' => e = .returned (.tuple #[.int .u64 (packW a b c), .int .i64 (packE a b c)]) ∧ w = w' := by
  cases h : fits a b c
  · have g := fits_false h
    have e1 : packW a b c = 0 := by simp [packW, h]
    have e2 : packE a b c = 1 := by simp [packE, h]
    rw [e1, e2]
    clear e1 e2 h
    go_enter Tryd.func10, Tryd.ntmps10
    go_wp2
    all_goals first | (go_ret2; exact ⟨rfl, rfl⟩) | (exfalso; omega)
  · obtain ⟨a0, a1, b0, b1, c0, c1⟩ := fits_true h
    have e1 : packW a b c = word a b c := by simp [packW, h]
    have e2 : packE a b c = 0 := by simp [packE, h]
    rw [e1, e2, ← sum_join]
    clear e1 e2 h
    go_enter Tryd.func10, Tryd.ntmps10
    go_wp2
    go_ret2
    exact ⟨rfl, rfl⟩
theorem pack_bad (a b c : Int) (g : ¬ (0 ≤ a ∧ a ≤ 16777215 ∧ 1 ≤ b ∧ b ≤ 4294967295 ∧ 1 ≤ c ∧ c ≤ 255)) (w : World) : Calls Tryd.prog 9 #[.int .i64 a, .int .i64 b, .int .i64 c] w fun e w' => e = .returned (.tuple #[.int .u64 0, .int .i64 1]) ∧ w = w' := by
  by_cases g1 : 0 ≤ a ∧ a ≤ 16777215
  · obtain ⟨a0, a1⟩ := g1
    by_cases g2 : 1 ≤ b ∧ b ≤ 4294967295
    · obtain ⟨b0, b1⟩ := g2
      by_cases c0 : 1 ≤ c
      · have c1 : 255 < c := by omega
        have k : decide (c ≤ 255) = false := by simp; omega
        clear g c1
        go_enter Tryd.func9, Tryd.ntmps9
        go_wp2
        go_ret2
        exact ⟨rfl, rfl⟩
      · have c1 : c < 1 := by omega
        have k : decide (1 ≤ c) = false := by simp; omega
        clear g c1 c0
        go_enter Tryd.func9, Tryd.ntmps9
        go_wp2
        go_ret2
        exact ⟨rfl, rfl⟩
    · clear g
      by_cases b0 : 1 ≤ b
      · have b1 : 4294967295 < b := by omega
        have k : decide (b ≤ 4294967295) = false := by simp; omega
        clear g2 b1
        go_enter Tryd.func9, Tryd.ntmps9
        go_wp2
        go_ret2
        exact ⟨rfl, rfl⟩
      · have b1 : b < 1 := by omega
        have k : decide (1 ≤ b) = false := by simp; omega
        clear g2 b1 b0
        go_enter Tryd.func9, Tryd.ntmps9
        go_wp2
        go_ret2
        exact ⟨rfl, rfl⟩
  · clear g
    by_cases a0 : 0 ≤ a
    · have a1 : 16777215 < a := by omega
      have k : decide (a ≤ 16777215) = false := by simp; omega
      clear g1 a1
      go_enter Tryd.func9, Tryd.ntmps9
      go_wp2
      go_ret2
      exact ⟨rfl, rfl⟩
    · have a1 : a < 0 := by omega
      have k : decide (0 ≤ a) = false := by simp; omega
      clear g1 a1 a0
      go_enter Tryd.func9, Tryd.ntmps9
      go_wp2
      go_ret2
      exact ⟨rfl, rfl⟩
theorem pack_any (a b c : Int) (w : World) : Calls Tryd.prog 9 #[.int .i64 a, .int .i64 b, .int .i64 c] w fun e w' => e = .returned (.tuple #[.int .u64 (packW a b c), .int .i64 (packE a b c)]) ∧ w = w' := by
  cases h : fits a b c
  · have e1 : packW a b c = 0 := by simp [packW, h]
    have e2 : packE a b c = 1 := by simp [packE, h]
    rw [e1, e2]
    exact pack_bad a b c (fits_false h) w
  · obtain ⟨a0, a1, b0, b1, c0, c1⟩ := fits_true h
    have e1 : packW a b c = word a b c := by simp [packW, h]
    have e2 : packE a b c = 0 := by simp [packE, h]
    rw [e1, e2]
    exact pack_ok a b c a0 a1 b0 b1 c0 c1 w
theorem itoa5 (w : World) : Calls Tryd.prog 26 #[.int .i64 5] w fun e w' => e = .returned (.string ⟨#[53]⟩) ∧ w = w' := by
  go_enter Tryd.func26, Tryd.ntmps26
  go_wp2
  go_ret
  exact ⟨rfl, rfl⟩
theorem itoa1 (w : World) : Calls Tryd.prog 26 #[.int .i64 1] w fun e w' => e = .returned (.string ⟨#[49]⟩) ∧ w = w' := by
  go_enter Tryd.func26, Tryd.ntmps26
  go_wp2
  go_ret
  exact ⟨rfl, rfl⟩
theorem itoa2 (w : World) : Calls Tryd.prog 26 #[.int .i64 2] w fun e w' => e = .returned (.string ⟨#[50]⟩) ∧ w = w' := by
  go_enter Tryd.func26, Tryd.ntmps26
  go_wp2
  go_ret
  exact ⟨rfl, rfl⟩
/-- The word of the chapter's example, kept behind a name. -/
def ex512 : Int := 144115188092633093
theorem ex_is : ex512 = word 5 1 2 := by decide
theorem ex_bd : 0 ≤ ex512 ∧ ex512 < 18446744073709551616 := by decide
theorem slotX (w : World) : Calls Tryd.prog 12 #[.int .u64 ex512] w fun e w' => e = .returned (.int .i64 5) ∧ w = w' := slot_any ex512 ex_bd.1 ex_bd.2 w
theorem genX (w : World) : Calls Tryd.prog 14 #[.int .u64 ex512] w fun e w' => e = .returned (.int .i64 1) ∧ w = w' := gen_any ex512 ex_bd.1 ex_bd.2 w
theorem tagX (w : World) : Calls Tryd.prog 16 #[.int .u64 ex512] w fun e w' => e = .returned (.int .i64 2) ∧ w = w' := tag_any ex512 ex_bd.1 ex_bd.2 w
theorem packX (w : World) : Calls Tryd.prog 9 #[.int .i64 5, .int .i64 1, .int .i64 2] w fun e w' => e = .returned (.tuple #[.int .u64 ex512, .int .i64 0]) ∧ w = w' := by
  rw [ex_is]
  exact pack_ok 5 1 2 (by decide) (by decide) (by decide) (by decide) (by decide) (by decide) w
theorem formatX (w : World) : Calls Tryd.prog 20 #[.int .u64 ex512] w fun e w' => e = .returned (.string ⟨#[53, 47, 49, 47, 50]⟩) ∧ w = w' := by
  go_enter Tryd.func20, Tryd.ntmps20
  go_wp2_with (first | (go_at_call 12; refine (slotX _).mono ?_; rintro e w' ⟨rfl, rfl⟩) | (go_at_call 14; refine (genX _).mono ?_; rintro e w' ⟨rfl, rfl⟩) | (go_at_call 16; refine (tagX _).mono ?_; rintro e w' ⟨rfl, rfl⟩) | fail)
  refine (itoa5 _).mono ?_
  rintro e w' ⟨rfl, rfl⟩
  go_wp2_with (first | (go_at_call 14; refine (genX _).mono ?_; rintro e w' ⟨rfl, rfl⟩) | fail)
  refine (itoa1 _).mono ?_
  rintro e w' ⟨rfl, rfl⟩
  go_wp2_with (first | (go_at_call 16; refine (tagX _).mono ?_; rintro e w' ⟨rfl, rfl⟩) | fail)
  refine (itoa2 _).mono ?_
  rintro e w' ⟨rfl, rfl⟩
  go_wp2
  go_ret
  exact ⟨rfl, rfl⟩
theorem awake_any (w : World) : Calls Tryd.prog 11 #[] w fun e w' => e = .returned (.bool true) ∧ w = w' := by
  have hk : (ex512 == 144115188092633093) = true := by decide
  go_enter Tryd.func11, Tryd.ntmps11
  go_wp2_with (first | (go_at_call 9; refine (packX _).mono ?_; rintro e w' ⟨rfl, rfl⟩) | (go_at_call 20; refine (formatX _).mono ?_; rintro e w' ⟨rfl, rfl⟩) | fail)
  go_ret
  exact ⟨rfl, rfl⟩
/-- Generation and tag are not 0. -/
def validB (x : Int) : Bool := decide (x / 16777216 % 4294967296 ≠ 0 ∧ x / 72057594037927936 ≠ 0)
theorem validB_t {x : Int} (h1 : x / 16777216 % 4294967296 ≠ 0) (h2 : x / 72057594037927936 ≠ 0) : validB x = true := by simp only [validB, decide_eq_true_eq]; exact ⟨h1, h2⟩
theorem validB_f1 {x : Int} (h1 : x / 16777216 % 4294967296 = 0) : validB x = false := by simp only [validB, decide_eq_false_iff_not]; omega
theorem validB_f2 {x : Int} (h1 : x / 72057594037927936 = 0) : validB x = false := by simp only [validB, decide_eq_false_iff_not]; omega
theorem valid_any (x : Int) (h0 : 0 ≤ x) (h1 : x < 18446744073709551616) (w : World) : Calls Tryd.prog 18 #[.int .u64 x] w fun e w' => e = .returned (.bool (validB x)) ∧ w = w' := by
  have hg := gen_any x h0 h1
  have ht := tag_any x h0 h1
  by_cases g1 : x / 16777216 % 4294967296 = 0
  · rw [validB_f1 g1]
    rw [g1] at hg
    have HG := Lib.hid hg
    have HT := Lib.hid ht
    clear hg ht g1
    go_enter Tryd.func18, Tryd.ntmps18
    go_wp2_with (first | (go_at_call 14; refine (HG.out _).mono ?_; rintro e w' ⟨rfl, rfl⟩) | (go_at_call 16; refine (HT.out _).mono ?_; rintro e w' ⟨rfl, rfl⟩) | fail)
    go_ret
    exact ⟨rfl, rfl⟩
  · by_cases g2 : x / 72057594037927936 = 0
    · rw [validB_f2 g2]
      rw [g2] at ht
      have HG := Lib.hid hg
      have HT := Lib.hid ht
      have k1 : (x / 16777216 % 4294967296 != 0) = true := by simpa using g1
      clear hg ht g2 g1
      go_enter Tryd.func18, Tryd.ntmps18
      go_wp2_with (first | (go_at_call 14; refine (HG.out _).mono ?_; rintro e w' ⟨rfl, rfl⟩) | (go_at_call 16; refine (HT.out _).mono ?_; rintro e w' ⟨rfl, rfl⟩) | fail)
      go_ret
      exact ⟨rfl, rfl⟩
    · rw [validB_t g1 g2]
      have HG := Lib.hid hg
      have HT := Lib.hid ht
      have k1 : (x / 16777216 % 4294967296 != 0) = true := by simpa using g1
      have k2 : (x / 72057594037927936 != 0) = true := by simpa using g2
      clear hg ht g2 g1
      go_enter Tryd.func18, Tryd.ntmps18
      go_wp2_with (first | (go_at_call 14; refine (HG.out _).mono ?_; rintro e w' ⟨rfl, rfl⟩) | (go_at_call 16; refine (HT.out _).mono ?_; rintro e w' ⟨rfl, rfl⟩) | fail)
      go_ret
      exact ⟨rfl, rfl⟩
theorem validR_any (x : Int) (h0 : 0 ≤ x) (h1 : x < 18446744073709551616) (w : World) : Calls Tryd.prog 19 #[.int .u64 x] w fun e w' => e = .returned (.bool (validB x)) ∧ w = w' := by
  have hg := genR_any x h0 h1
  have ht := tagR_any x h0 h1
  by_cases g1 : x / 16777216 % 4294967296 = 0
  · rw [validB_f1 g1]
    rw [g1] at hg
    have HG := Lib.hid hg
    have HT := Lib.hid ht
    clear hg ht g1
    go_enter Tryd.func19, Tryd.ntmps19
    go_wp2_with (first | (go_at_call 15; refine (HG.out _).mono ?_; rintro e w' ⟨rfl, rfl⟩) | (go_at_call 17; refine (HT.out _).mono ?_; rintro e w' ⟨rfl, rfl⟩) | fail)
    go_ret
    exact ⟨rfl, rfl⟩
  · have k1 : 0 < x / 16777216 % 4294967296 := by omega
    by_cases g2 : x / 72057594037927936 = 0
    · rw [validB_f2 g2]
      rw [g2] at ht
      have HG := Lib.hid hg
      have HT := Lib.hid ht
      clear hg ht g2 g1
      go_enter Tryd.func19, Tryd.ntmps19
      go_wp2_with (first | (go_at_call 15; refine (HG.out _).mono ?_; rintro e w' ⟨rfl, rfl⟩) | (go_at_call 17; refine (HT.out _).mono ?_; rintro e w' ⟨rfl, rfl⟩) | fail)
      go_ret
      exact ⟨rfl, rfl⟩
    · rw [validB_t g1 g2]
      have HG := Lib.hid hg
      have HT := Lib.hid ht
      have k2 : 0 < x / 72057594037927936 := by omega
      clear hg ht g2 g1
      go_enter Tryd.func19, Tryd.ntmps19
      go_wp2_with (first | (go_at_call 15; refine (HG.out _).mono ?_; rintro e w' ⟨rfl, rfl⟩) | (go_at_call 17; refine (HT.out _).mono ?_; rintro e w' ⟨rfl, rfl⟩) | fail)
      go_ret
      exact ⟨rfl, rfl⟩
theorem parts_walk (x : Int) (h0 : 0 ≤ x) (h1 : x < 18446744073709551616) (w : World) : Calls Tryd.prog 4 #[.int .u64 x] w fun e w' => e = .returned (.bool true) ∧ w = w' := by
  have HV := Lib.hid (valid_any x h0 h1)
  have HR := Lib.hid (validR_any x h0 h1)
  generalize validB x = v at HV HR
  go_enter Tryd.func4, Tryd.ntmps4
  go_wp2_with (first | (go_at_call 11; refine (awake_any _).mono ?_; rintro e w' ⟨rfl, rfl⟩) | (go_at_call 12; refine (slot_any x h0 h1 _).mono ?_; rintro e w' ⟨rfl, rfl⟩) | (go_at_call 13; refine (slotR_any x h0 h1 _).mono ?_; rintro e w' ⟨rfl, rfl⟩) | (go_at_call 14; refine (gen_any x h0 h1 _).mono ?_; rintro e w' ⟨rfl, rfl⟩) | (go_at_call 15; refine (genR_any x h0 h1 _).mono ?_; rintro e w' ⟨rfl, rfl⟩) | (go_at_call 16; refine (tag_any x h0 h1 _).mono ?_; rintro e w' ⟨rfl, rfl⟩) | (go_at_call 17; refine (tagR_any x h0 h1 _).mono ?_; rintro e w' ⟨rfl, rfl⟩) | (go_at_call 18; refine (HV.out _).mono ?_; rintro e w' ⟨rfl, rfl⟩) | (go_at_call 19; refine (HR.out _).mono ?_; rintro e w' ⟨rfl, rfl⟩) | fail)
  go_ret
  exact ⟨rfl, rfl⟩
end Go.Proofs.YtbmajggpfojnkaaDoor
