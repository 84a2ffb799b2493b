/-
  The laws' walks: each law returns true, whatever its arguments, and only adds new blocks to memory. No conditions.
-/
import Derived.Test.YtbmajggpfojnkaaDoorWalks
import Derived.LaidMore
namespace Go.Proofs.YtbmajggpfojnkaaDoor
open Go.ChangeShapes Go.WideShapes Go.ChangeAt Go.RowKit
set_option maxHeartbeats 400000
set_option maxRecDepth 100000

theorem u64_bd {x : Int} (h : (Lit.int .u64 x).wf = true) : 0 ≤ x ∧ x < 18446744073709551616 := by
  have := bounds_u64 h; omega
theorem handleParts_walk (x : Int) (h : (Lit.int .u64 x).wf = true) (w : World) {P : Program} {l : List (String × DataW Unit)} (_ : laidMetH P l w) :
    Calls Tryd.prog 4 #[.int .u64 x] w fun e w' => e = .returned (.bool true) ∧ Grown w w' := by
  refine (parts_walk x (u64_bd h).1 (u64_bd h).2 w).mono ?_
  rintro e w' ⟨rfl, rfl⟩
  exact ⟨rfl, Grown.refl _⟩
theorem pack_walk (s g t a b c : Int) (a0 : 0 ≤ a) (a1 : a ≤ 4294967295) (b0 : 0 ≤ b) (b1 : b ≤ 4294967295) (c0 : 0 ≤ c) (c1 : c ≤ 65535) (w : World) :
    Calls Tryd.prog 3 #[.int .i64 s, .int .i64 g, .int .i64 t, .int .u32 a, .int .u32 b, .int .u16 c] w fun e w' => e = .returned (.bool true) ∧ w = w' := by
  go_enter Tryd.func3, Tryd.ntmps3
  go_wp2_with (first | (go_at_call 11; refine (awake_any _).mono ?_; rintro e w' ⟨rfl, rfl⟩) | (go_at_call 9; refine (pack_any _ _ _ _).mono ?_; rintro e w' ⟨rfl, rfl⟩) | (go_at_call 10; refine (packR_any _ _ _ _).mono ?_; rintro e w' ⟨rfl, rfl⟩) | fail)
  go_ret
  exact ⟨rfl, rfl⟩
theorem fits_valid {x : Int} (h0 : 0 ≤ x) (h1 : x < 18446744073709551616) (h : validB x = true) : fits (x % 16777216) (x / 16777216 % 4294967296) (x / 72057594037927936) = true := by
  simp only [validB, decide_eq_true_eq] at h; simp only [fits, decide_eq_true_eq]; omega
theorem fits_invalid {x : Int} (h : validB x = false) : fits (x % 16777216) (x / 16777216 % 4294967296) (x / 72057594037927936) = false := by
  simp only [validB, decide_eq_false_iff_not] at h; simp only [fits, decide_eq_false_iff_not]; omega
/-- Pack at the parts of a valid word. -/
theorem packP_t (x : Int) (h0 : 0 ≤ x) (h1 : x < 18446744073709551616) (h : validB x = true) (w : World) : Calls Tryd.prog 9 #[.int .i64 (x % 16777216), .int .i64 (x / 16777216 % 4294967296), .int .i64 (x / 72057594037927936)] w fun e w' => e = .returned (.tuple #[.int .u64 x, .int .i64 0]) ∧ w = w' := by
  have hp := pack_any (x % 16777216) (x / 16777216 % 4294967296) (x / 72057594037927936) w
  have e1 : packW (x % 16777216) (x / 16777216 % 4294967296) (x / 72057594037927936) = x := by unfold packW; rw [fits_valid h0 h1 h, if_pos rfl, word_parts]
  have e2 : packE (x % 16777216) (x / 16777216 % 4294967296) (x / 72057594037927936) = 0 := by unfold packE; rw [fits_valid h0 h1 h, if_pos rfl]
  rw [e1, e2] at hp
  exact hp
theorem packP_f (x : Int) (h : validB x = false) (w : World) : Calls Tryd.prog 9 #[.int .i64 (x % 16777216), .int .i64 (x / 16777216 % 4294967296), .int .i64 (x / 72057594037927936)] w fun e w' => e = .returned (.tuple #[.int .u64 0, .int .i64 1]) ∧ w = w' := by
  have hp := pack_any (x % 16777216) (x / 16777216 % 4294967296) (x / 72057594037927936) w
  have e1 : packW (x % 16777216) (x / 16777216 % 4294967296) (x / 72057594037927936) = 0 := by unfold packW; rw [fits_invalid h]; rfl
  have e2 : packE (x % 16777216) (x / 16777216 % 4294967296) (x / 72057594037927936) = 1 := by unfold packE; rw [fits_invalid h]; rfl
  rw [e1, e2] at hp
  exact hp
theorem back_gen (s g t : Int) (s0 : 0 ≤ s) (s1 : s ≤ 16777215) (g0 : 1 ≤ g) (g1 : g ≤ 4294967295) (t0 : 1 ≤ t) (t1 : t ≤ 255) :
    ∃ X : Int, (∀ w, Calls Tryd.prog 9 #[.int .i64 s, .int .i64 g, .int .i64 t] w fun e w' => e = .returned (.tuple #[.int .u64 X, .int .i64 0]) ∧ w = w') ∧
      (∀ w, Calls Tryd.prog 12 #[.int .u64 X] w fun e w' => e = .returned (.int .i64 s) ∧ w = w') ∧
      (∀ w, Calls Tryd.prog 14 #[.int .u64 X] w fun e w' => e = .returned (.int .i64 g) ∧ w = w') ∧
      (∀ w, Calls Tryd.prog 16 #[.int .u64 X] w fun e w' => e = .returned (.int .i64 t) ∧ w = w') ∧
      (∀ w, Calls Tryd.prog 18 #[.int .u64 X] w fun e w' => e = .returned (.bool true) ∧ w = w') := by
  obtain ⟨x0, x1⟩ := word_bd s g t s0 s1 (by omega) g1 (by omega) t1
  have eg := word_gen s g t s0 s1 (by omega) g1
  have et := word_tag s g t s0 s1 (by omega) g1
  refine ⟨word s g t, pack_ok s g t s0 s1 g0 g1 t0 t1, fun w => ?_, fun w => ?_, fun w => ?_, fun w => ?_⟩
  · have := slot_any _ x0 x1 w; rwa [word_slot s g t s0 s1] at this
  · have := gen_any _ x0 x1 w; rwa [eg] at this
  · have := tag_any _ x0 x1 w; rwa [et] at this
  · have := valid_any _ x0 x1 w
    rwa [validB_t (by rw [eg]; omega) (by rw [et]; omega)] at this
theorem back_packs (x : Int) (h0 : 0 ≤ x) (h1 : x < 18446744073709551616) :
    (∃ y : Int, (∀ w, Calls Tryd.prog 9 #[.int .i64 (x % 16777216), .int .i64 (x / 16777216 % 4294967296), .int .i64 (x / 72057594037927936)] w fun e w' => e = .returned (.tuple #[.int .u64 y, .int .i64 1]) ∧ w = w') ∧
      (∀ w, Calls Tryd.prog 18 #[.int .u64 x] w fun e w' => e = .returned (.bool false) ∧ w = w')) ∨
    ((∀ w, Calls Tryd.prog 9 #[.int .i64 (x % 16777216), .int .i64 (x / 16777216 % 4294967296), .int .i64 (x / 72057594037927936)] w fun e w' => e = .returned (.tuple #[.int .u64 x, .int .i64 0]) ∧ w = w') ∧
      (∀ w, Calls Tryd.prog 18 #[.int .u64 x] w fun e w' => e = .returned (.bool true) ∧ w = w')) := by
  cases h : validB x
  · exact .inl ⟨0, packP_f x h, fun w => by have := valid_any x h0 h1 w; rwa [h] at this⟩
  · exact .inr ⟨packP_t x h0 h1 h, fun w => by have := valid_any x h0 h1 w; rwa [h] at this⟩
theorem back_11 (x a b c : Int) (h0 : 0 ≤ x) (h1 : x < 18446744073709551616) (a0 : 0 ≤ a) (a1 : a ≤ 4294967295) (b1 : b ≤ 4294967295) (c1 : c ≤ 255) (b0 : 1 ≤ b) (c0 : 1 ≤ c) (w : World) :
    Calls Tryd.prog 5 #[.int .u64 x, .int .u32 a, .int .u32 b, .int .u8 c] w fun e w' => e = .returned (.bool true) ∧ w = w' := by
  obtain ⟨X, hp, hs, hg, ht, hv⟩ := back_gen (a % 16777216) b c (by omega) (by omega) (by omega) (by omega) (by omega) (by omega)
  have HP := Lib.hid hp
  have HS := Lib.hid hs
  have HG := Lib.hid hg
  have HT := Lib.hid ht
  have HV := Lib.hid hv
  clear hp hs hg ht hv
  rcases back_packs x h0 h1 with ⟨y, hq, hw⟩ | ⟨hq, hw⟩
  all_goals
    have HQ := Lib.hid hq
    have HW := Lib.hid hw
    clear hq hw
    go_enter Tryd.func5, Tryd.ntmps5
    go_wp2_with fail
    refine (HP.out _).mono ?_
    rintro e w' ⟨rfl, rfl⟩
    go_wp2_with fail
    refine (slot_any x h0 h1 _).mono ?_
    rintro e w' ⟨rfl, rfl⟩
    go_wp2_with fail
    refine (gen_any x h0 h1 _).mono ?_
    rintro e w' ⟨rfl, rfl⟩
    go_wp2_with fail
    refine (tag_any x h0 h1 _).mono ?_
    rintro e w' ⟨rfl, rfl⟩
    go_wp2_with fail
    refine (HQ.out _).mono ?_
    rintro e w' ⟨rfl, rfl⟩
    go_wp2_with fail
    refine (awake_any _).mono ?_
    rintro e w' ⟨rfl, rfl⟩
    go_wp2_with fail
    refine (HS.out _).mono ?_
    rintro e w' ⟨rfl, rfl⟩
    go_wp2_with fail
    refine (HG.out _).mono ?_
    rintro e w' ⟨rfl, rfl⟩
    go_wp2_with fail
    refine (HT.out _).mono ?_
    rintro e w' ⟨rfl, rfl⟩
    go_wp2_with fail
    refine (HV.out _).mono ?_
    rintro e w' ⟨rfl, rfl⟩
    go_wp2_with fail
    refine (HW.out _).mono ?_
    rintro e w' ⟨rfl, rfl⟩
    go_wp2
    go_ret
    exact ⟨rfl, rfl⟩
theorem back_01 (x a c : Int) (h0 : 0 ≤ x) (h1 : x < 18446744073709551616) (a0 : 0 ≤ a) (a1 : a ≤ 4294967295) (c1 : c ≤ 255) (c0 : 1 ≤ c) (w : World) :
    Calls Tryd.prog 5 #[.int .u64 x, .int .u32 a, .int .u32 0, .int .u8 c] w fun e w' => e = .returned (.bool true) ∧ w = w' := by
  obtain ⟨X, hp, hs, hg, ht, hv⟩ := back_gen (a % 16777216) 1 c (by omega) (by omega) (by omega) (by omega) (by omega) (by omega)
  have HP := Lib.hid hp
  have HS := Lib.hid hs
  have HG := Lib.hid hg
  have HT := Lib.hid ht
  have HV := Lib.hid hv
  clear hp hs hg ht hv
  rcases back_packs x h0 h1 with ⟨y, hq, hw⟩ | ⟨hq, hw⟩
  all_goals
    have HQ := Lib.hid hq
    have HW := Lib.hid hw
    clear hq hw
    go_enter Tryd.func5, Tryd.ntmps5
    go_wp2_with fail
    refine (HP.out _).mono ?_
    rintro e w' ⟨rfl, rfl⟩
    go_wp2_with fail
    refine (slot_any x h0 h1 _).mono ?_
    rintro e w' ⟨rfl, rfl⟩
    go_wp2_with fail
    refine (gen_any x h0 h1 _).mono ?_
    rintro e w' ⟨rfl, rfl⟩
    go_wp2_with fail
    refine (tag_any x h0 h1 _).mono ?_
    rintro e w' ⟨rfl, rfl⟩
    go_wp2_with fail
    refine (HQ.out _).mono ?_
    rintro e w' ⟨rfl, rfl⟩
    go_wp2_with fail
    refine (awake_any _).mono ?_
    rintro e w' ⟨rfl, rfl⟩
    go_wp2_with fail
    refine (HS.out _).mono ?_
    rintro e w' ⟨rfl, rfl⟩
    go_wp2_with fail
    refine (HG.out _).mono ?_
    rintro e w' ⟨rfl, rfl⟩
    go_wp2_with fail
    refine (HT.out _).mono ?_
    rintro e w' ⟨rfl, rfl⟩
    go_wp2_with fail
    refine (HV.out _).mono ?_
    rintro e w' ⟨rfl, rfl⟩
    go_wp2_with fail
    refine (HW.out _).mono ?_
    rintro e w' ⟨rfl, rfl⟩
    go_wp2
    go_ret
    exact ⟨rfl, rfl⟩
theorem back_10 (x a b : Int) (h0 : 0 ≤ x) (h1 : x < 18446744073709551616) (a0 : 0 ≤ a) (a1 : a ≤ 4294967295) (b1 : b ≤ 4294967295) (b0 : 1 ≤ b) (w : World) :
    Calls Tryd.prog 5 #[.int .u64 x, .int .u32 a, .int .u32 b, .int .u8 0] w fun e w' => e = .returned (.bool true) ∧ w = w' := by
  obtain ⟨X, hp, hs, hg, ht, hv⟩ := back_gen (a % 16777216) b 1 (by omega) (by omega) (by omega) (by omega) (by omega) (by omega)
  have HP := Lib.hid hp
  have HS := Lib.hid hs
  have HG := Lib.hid hg
  have HT := Lib.hid ht
  have HV := Lib.hid hv
  clear hp hs hg ht hv
  rcases back_packs x h0 h1 with ⟨y, hq, hw⟩ | ⟨hq, hw⟩
  all_goals
    have HQ := Lib.hid hq
    have HW := Lib.hid hw
    clear hq hw
    go_enter Tryd.func5, Tryd.ntmps5
    go_wp2_with fail
    refine (HP.out _).mono ?_
    rintro e w' ⟨rfl, rfl⟩
    go_wp2_with fail
    refine (slot_any x h0 h1 _).mono ?_
    rintro e w' ⟨rfl, rfl⟩
    go_wp2_with fail
    refine (gen_any x h0 h1 _).mono ?_
    rintro e w' ⟨rfl, rfl⟩
    go_wp2_with fail
    refine (tag_any x h0 h1 _).mono ?_
    rintro e w' ⟨rfl, rfl⟩
    go_wp2_with fail
    refine (HQ.out _).mono ?_
    rintro e w' ⟨rfl, rfl⟩
    go_wp2_with fail
    refine (awake_any _).mono ?_
    rintro e w' ⟨rfl, rfl⟩
    go_wp2_with fail
    refine (HS.out _).mono ?_
    rintro e w' ⟨rfl, rfl⟩
    go_wp2_with fail
    refine (HG.out _).mono ?_
    rintro e w' ⟨rfl, rfl⟩
    go_wp2_with fail
    refine (HT.out _).mono ?_
    rintro e w' ⟨rfl, rfl⟩
    go_wp2_with fail
    refine (HV.out _).mono ?_
    rintro e w' ⟨rfl, rfl⟩
    go_wp2_with fail
    refine (HW.out _).mono ?_
    rintro e w' ⟨rfl, rfl⟩
    go_wp2
    go_ret
    exact ⟨rfl, rfl⟩
theorem back_00 (x a : Int) (h0 : 0 ≤ x) (h1 : x < 18446744073709551616) (a0 : 0 ≤ a) (a1 : a ≤ 4294967295)  (w : World) :
    Calls Tryd.prog 5 #[.int .u64 x, .int .u32 a, .int .u32 0, .int .u8 0] w fun e w' => e = .returned (.bool true) ∧ w = w' := by
  obtain ⟨X, hp, hs, hg, ht, hv⟩ := back_gen (a % 16777216) 1 1 (by omega) (by omega) (by omega) (by omega) (by omega) (by omega)
  have HP := Lib.hid hp
  have HS := Lib.hid hs
  have HG := Lib.hid hg
  have HT := Lib.hid ht
  have HV := Lib.hid hv
  clear hp hs hg ht hv
  rcases back_packs x h0 h1 with ⟨y, hq, hw⟩ | ⟨hq, hw⟩
  all_goals
    have HQ := Lib.hid hq
    have HW := Lib.hid hw
    clear hq hw
    go_enter Tryd.func5, Tryd.ntmps5
    go_wp2_with fail
    refine (HP.out _).mono ?_
    rintro e w' ⟨rfl, rfl⟩
    go_wp2_with fail
    refine (slot_any x h0 h1 _).mono ?_
    rintro e w' ⟨rfl, rfl⟩
    go_wp2_with fail
    refine (gen_any x h0 h1 _).mono ?_
    rintro e w' ⟨rfl, rfl⟩
    go_wp2_with fail
    refine (tag_any x h0 h1 _).mono ?_
    rintro e w' ⟨rfl, rfl⟩
    go_wp2_with fail
    refine (HQ.out _).mono ?_
    rintro e w' ⟨rfl, rfl⟩
    go_wp2_with fail
    refine (awake_any _).mono ?_
    rintro e w' ⟨rfl, rfl⟩
    go_wp2_with fail
    refine (HS.out _).mono ?_
    rintro e w' ⟨rfl, rfl⟩
    go_wp2_with fail
    refine (HG.out _).mono ?_
    rintro e w' ⟨rfl, rfl⟩
    go_wp2_with fail
    refine (HT.out _).mono ?_
    rintro e w' ⟨rfl, rfl⟩
    go_wp2_with fail
    refine (HV.out _).mono ?_
    rintro e w' ⟨rfl, rfl⟩
    go_wp2_with fail
    refine (HW.out _).mono ?_
    rintro e w' ⟨rfl, rfl⟩
    go_wp2
    go_ret
    exact ⟨rfl, rfl⟩
theorem back_walk (x a b c : Int) (h0 : 0 ≤ x) (h1 : x < 18446744073709551616) (a0 : 0 ≤ a) (a1 : a ≤ 4294967295) (b0 : 0 ≤ b) (b1 : b ≤ 4294967295) (c0 : 0 ≤ c) (c1 : c ≤ 255) (w : World) :
    Calls Tryd.prog 5 #[.int .u64 x, .int .u32 a, .int .u32 b, .int .u8 c] w fun e w' => e = .returned (.bool true) ∧ w = w' := by
  by_cases hb : b = 0
  · subst hb
    by_cases hc : c = 0
    · subst hc; exact back_00 x a h0 h1 a0 a1 w
    · exact back_01 x a c h0 h1 a0 a1 c1 (by omega) w
  · by_cases hc : c = 0
    · subst hc; exact back_10 x a b h0 h1 a0 a1 b1 (by omega) w
    · exact back_11 x a b c h0 h1 a0 a1 b1 c1 (by omega) (by omega) w
theorem xor_bit (a c : Int) (h0 : 0 ≤ a) (h1 : a < 18446744073709551616) :
    ∃ z : Int, bits .xor .u64 a (IntKind.u64.wrap (2 ^ (c % 64).toNat)) = z ∧ 0 ≤ z ∧ z < 18446744073709551616 ∧ z ≠ a := by
  obtain ⟨n, hn⟩ : ∃ n : Nat, (c % 64).toNat = n := ⟨_, rfl⟩
  have hlt : n < 64 := by omega
  rw [hn]
  have hp : (2 : Nat) ^ n < 2 ^ 64 := Nat.pow_lt_pow_right (by decide) hlt
  have hp0 : (0 : Nat) < 2 ^ n := Nat.two_pow_pos n
  have e1 : ((2 : Int) ^ n) = ((2 ^ n : Nat) : Int) := by simp
  rw [e1, u64_in _ (by omega) (by omega)]
  have ha : a.toNat < 2 ^ 64 := by omega
  have hx : a.toNat ^^^ 2 ^ n < 2 ^ 64 := Nat.xor_lt_two_pow ha hp
  have e2 := u64_xor a ((2 ^ n : Nat) : Int) h0 h1 (by omega) (by omega)
  rw [Int.toNat_natCast] at e2
  refine ⟨_, rfl, by rw [e2]; omega, by rw [e2]; omega, ?_⟩
  rw [e2]
  intro h
  have h3 : a.toNat ^^^ 2 ^ n = a.toNat := by omega
  have h4 : 2 ^ n = 0 := by
    have := congrArg (fun t => a.toNat ^^^ t) h3
    simp [← Nat.xor_assoc] at this
  omega
theorem part_cases (a b : Int) (h : a ≠ b) :
    ((a % 16777216 == b % 16777216) = false) ∨
    ((a % 16777216 == b % 16777216) = true ∧ (a / 16777216 % 4294967296 == b / 16777216 % 4294967296) = false) ∨
    ((a % 16777216 == b % 16777216) = true ∧ (a / 16777216 % 4294967296 == b / 16777216 % 4294967296) = true ∧ (a / 72057594037927936 == b / 72057594037927936) = false) := by
  simp only [beq_iff_eq, beq_eq_false_iff_ne]
  have := word_parts a
  have := word_parts b
  by_cases h1 : a % 16777216 = b % 16777216
  · by_cases h2 : a / 16777216 % 4294967296 = b / 16777216 % 4294967296
    · refine .inr (.inr ⟨h1, h2, fun h3 => h ?_⟩)
      rw [← word_parts a, ← word_parts b, h1, h2, h3]
    · exact .inr (.inl ⟨h1, h2⟩)
  · exact .inl h1
/-- The three parts of a word, by contracts over names. -/
theorem parts_of (x : Int) (h0 : 0 ≤ x) (h1 : x < 18446744073709551616) :
    Hid (∀ w, Calls Tryd.prog 12 #[.int .u64 x] w fun e w' => e = .returned (.int .i64 (x % 16777216)) ∧ w = w') ∧
    Hid (∀ w, Calls Tryd.prog 14 #[.int .u64 x] w fun e w' => e = .returned (.int .i64 (x / 16777216 % 4294967296)) ∧ w = w') ∧
    Hid (∀ w, Calls Tryd.prog 16 #[.int .u64 x] w fun e w' => e = .returned (.int .i64 (x / 72057594037927936)) ∧ w = w') :=
  ⟨Lib.hid (slot_any x h0 h1), Lib.hid (gen_any x h0 h1), Lib.hid (tag_any x h0 h1)⟩
theorem apart_walk (a b c : Int) (h0 : 0 ≤ a) (h1 : a < 18446744073709551616) (b0 : 0 ≤ b) (b1 : b < 18446744073709551616) (c0 : 0 ≤ c) (c1 : c ≤ 255) (w : World) :
    Calls Tryd.prog 6 #[.int .u64 a, .int .u64 b, .int .u8 c] w fun e w' => e = .returned (.bool true) ∧ w = w' := by
  obtain ⟨z, hz, z0, z1, hne⟩ := xor_bit a c h0 h1
  have HZ := Lib.hid hz
  clear hz
  obtain ⟨HSA, HGA, HTA⟩ := parts_of a h0 h1
  obtain ⟨HSZ, HGZ, HTZ⟩ := parts_of z z0 z1
  have hz2 := part_cases a z (fun h => hne h.symm)
  by_cases hab : a = b
  · subst hab
    obtain ⟨HSB, HGB, HTB⟩ := parts_of a h0 h1
    rcases hz2 with k1 | ⟨k1, k2⟩ | ⟨k1, k2, k3⟩
    · go_enter Tryd.func6, Tryd.ntmps6
      go_wp2_with fail
      rw [HZ.out]
      refine (HSA.out _).mono ?_
      rintro e w' ⟨rfl, rfl⟩
      go_wp2_with fail
      refine (HSB.out _).mono ?_
      rintro e w' ⟨rfl, rfl⟩
      go_wp2_with fail
      refine (HGA.out _).mono ?_
      rintro e w' ⟨rfl, rfl⟩
      go_wp2_with fail
      refine (HGB.out _).mono ?_
      rintro e w' ⟨rfl, rfl⟩
      go_wp2_with fail
      refine (HTA.out _).mono ?_
      rintro e w' ⟨rfl, rfl⟩
      go_wp2_with fail
      refine (HTB.out _).mono ?_
      rintro e w' ⟨rfl, rfl⟩
      go_wp2_with fail
      refine (HSA.out _).mono ?_
      rintro e w' ⟨rfl, rfl⟩
      go_wp2_with fail
      refine (HSZ.out _).mono ?_
      rintro e w' ⟨rfl, rfl⟩
      go_wp2_with fail
      refine (awake_any _).mono ?_
      rintro e w' ⟨rfl, rfl⟩
      go_wp2
      go_ret
      exact ⟨rfl, rfl⟩
    · go_enter Tryd.func6, Tryd.ntmps6
      go_wp2_with fail
      rw [HZ.out]
      refine (HSA.out _).mono ?_
      rintro e w' ⟨rfl, rfl⟩
      go_wp2_with fail
      refine (HSB.out _).mono ?_
      rintro e w' ⟨rfl, rfl⟩
      go_wp2_with fail
      refine (HGA.out _).mono ?_
      rintro e w' ⟨rfl, rfl⟩
      go_wp2_with fail
      refine (HGB.out _).mono ?_
      rintro e w' ⟨rfl, rfl⟩
      go_wp2_with fail
      refine (HTA.out _).mono ?_
      rintro e w' ⟨rfl, rfl⟩
      go_wp2_with fail
      refine (HTB.out _).mono ?_
      rintro e w' ⟨rfl, rfl⟩
      go_wp2_with fail
      refine (HSA.out _).mono ?_
      rintro e w' ⟨rfl, rfl⟩
      go_wp2_with fail
      refine (HSZ.out _).mono ?_
      rintro e w' ⟨rfl, rfl⟩
      go_wp2_with fail
      refine (HGA.out _).mono ?_
      rintro e w' ⟨rfl, rfl⟩
      go_wp2_with fail
      refine (HGZ.out _).mono ?_
      rintro e w' ⟨rfl, rfl⟩
      go_wp2_with fail
      refine (awake_any _).mono ?_
      rintro e w' ⟨rfl, rfl⟩
      go_wp2
      go_ret
      exact ⟨rfl, rfl⟩
    · go_enter Tryd.func6, Tryd.ntmps6
      go_wp2_with fail
      rw [HZ.out]
      refine (HSA.out _).mono ?_
      rintro e w' ⟨rfl, rfl⟩
      go_wp2_with fail
      refine (HSB.out _).mono ?_
      rintro e w' ⟨rfl, rfl⟩
      go_wp2_with fail
      refine (HGA.out _).mono ?_
      rintro e w' ⟨rfl, rfl⟩
      go_wp2_with fail
      refine (HGB.out _).mono ?_
      rintro e w' ⟨rfl, rfl⟩
      go_wp2_with fail
      refine (HTA.out _).mono ?_
      rintro e w' ⟨rfl, rfl⟩
      go_wp2_with fail
      refine (HTB.out _).mono ?_
      rintro e w' ⟨rfl, rfl⟩
      go_wp2_with fail
      refine (HSA.out _).mono ?_
      rintro e w' ⟨rfl, rfl⟩
      go_wp2_with fail
      refine (HSZ.out _).mono ?_
      rintro e w' ⟨rfl, rfl⟩
      go_wp2_with fail
      refine (HGA.out _).mono ?_
      rintro e w' ⟨rfl, rfl⟩
      go_wp2_with fail
      refine (HGZ.out _).mono ?_
      rintro e w' ⟨rfl, rfl⟩
      go_wp2_with fail
      refine (HTA.out _).mono ?_
      rintro e w' ⟨rfl, rfl⟩
      go_wp2_with fail
      refine (HTZ.out _).mono ?_
      rintro e w' ⟨rfl, rfl⟩
      go_wp2_with fail
      refine (awake_any _).mono ?_
      rintro e w' ⟨rfl, rfl⟩
      go_wp2
      go_ret
      exact ⟨rfl, rfl⟩
  · obtain ⟨HSB, HGB, HTB⟩ := parts_of b b0 b1
    have hq : (a == b) = false := by simpa using hab
    have hb2 := part_cases a b hab
    clear hab
    rcases hb2 with j1 | ⟨j1, j2⟩ | ⟨j1, j2, j3⟩
    · rcases hz2 with k1 | ⟨k1, k2⟩ | ⟨k1, k2, k3⟩
      · go_enter Tryd.func6, Tryd.ntmps6
        go_wp2_with fail
        rw [HZ.out]
        refine (HSA.out _).mono ?_
        rintro e w' ⟨rfl, rfl⟩
        go_wp2_with fail
        refine (HSB.out _).mono ?_
        rintro e w' ⟨rfl, rfl⟩
        go_wp2_with fail
        refine (HSA.out _).mono ?_
        rintro e w' ⟨rfl, rfl⟩
        go_wp2_with fail
        refine (HSZ.out _).mono ?_
        rintro e w' ⟨rfl, rfl⟩
        go_wp2_with fail
        refine (awake_any _).mono ?_
        rintro e w' ⟨rfl, rfl⟩
        go_wp2
        go_ret
        exact ⟨rfl, rfl⟩
      · go_enter Tryd.func6, Tryd.ntmps6
        go_wp2_with fail
        rw [HZ.out]
        refine (HSA.out _).mono ?_
        rintro e w' ⟨rfl, rfl⟩
        go_wp2_with fail
        refine (HSB.out _).mono ?_
        rintro e w' ⟨rfl, rfl⟩
        go_wp2_with fail
        refine (HSA.out _).mono ?_
        rintro e w' ⟨rfl, rfl⟩
        go_wp2_with fail
        refine (HSZ.out _).mono ?_
        rintro e w' ⟨rfl, rfl⟩
        go_wp2_with fail
        refine (HGA.out _).mono ?_
        rintro e w' ⟨rfl, rfl⟩
        go_wp2_with fail
        refine (HGZ.out _).mono ?_
        rintro e w' ⟨rfl, rfl⟩
        go_wp2_with fail
        refine (awake_any _).mono ?_
        rintro e w' ⟨rfl, rfl⟩
        go_wp2
        go_ret
        exact ⟨rfl, rfl⟩
      · go_enter Tryd.func6, Tryd.ntmps6
        go_wp2_with fail
        rw [HZ.out]
        refine (HSA.out _).mono ?_
        rintro e w' ⟨rfl, rfl⟩
        go_wp2_with fail
        refine (HSB.out _).mono ?_
        rintro e w' ⟨rfl, rfl⟩
        go_wp2_with fail
        refine (HSA.out _).mono ?_
        rintro e w' ⟨rfl, rfl⟩
        go_wp2_with fail
        refine (HSZ.out _).mono ?_
        rintro e w' ⟨rfl, rfl⟩
        go_wp2_with fail
        refine (HGA.out _).mono ?_
        rintro e w' ⟨rfl, rfl⟩
        go_wp2_with fail
        refine (HGZ.out _).mono ?_
        rintro e w' ⟨rfl, rfl⟩
        go_wp2_with fail
        refine (HTA.out _).mono ?_
        rintro e w' ⟨rfl, rfl⟩
        go_wp2_with fail
        refine (HTZ.out _).mono ?_
        rintro e w' ⟨rfl, rfl⟩
        go_wp2_with fail
        refine (awake_any _).mono ?_
        rintro e w' ⟨rfl, rfl⟩
        go_wp2
        go_ret
        exact ⟨rfl, rfl⟩
    · rcases hz2 with k1 | ⟨k1, k2⟩ | ⟨k1, k2, k3⟩
      · go_enter Tryd.func6, Tryd.ntmps6
        go_wp2_with fail
        rw [HZ.out]
        refine (HSA.out _).mono ?_
        rintro e w' ⟨rfl, rfl⟩
        go_wp2_with fail
        refine (HSB.out _).mono ?_
        rintro e w' ⟨rfl, rfl⟩
        go_wp2_with fail
        refine (HGA.out _).mono ?_
        rintro e w' ⟨rfl, rfl⟩
        go_wp2_with fail
        refine (HGB.out _).mono ?_
        rintro e w' ⟨rfl, rfl⟩
        go_wp2_with fail
        refine (HSA.out _).mono ?_
        rintro e w' ⟨rfl, rfl⟩
        go_wp2_with fail
        refine (HSZ.out _).mono ?_
        rintro e w' ⟨rfl, rfl⟩
        go_wp2_with fail
        refine (awake_any _).mono ?_
        rintro e w' ⟨rfl, rfl⟩
        go_wp2
        go_ret
        exact ⟨rfl, rfl⟩
      · go_enter Tryd.func6, Tryd.ntmps6
        go_wp2_with fail
        rw [HZ.out]
        refine (HSA.out _).mono ?_
        rintro e w' ⟨rfl, rfl⟩
        go_wp2_with fail
        refine (HSB.out _).mono ?_
        rintro e w' ⟨rfl, rfl⟩
        go_wp2_with fail
        refine (HGA.out _).mono ?_
        rintro e w' ⟨rfl, rfl⟩
        go_wp2_with fail
        refine (HGB.out _).mono ?_
        rintro e w' ⟨rfl, rfl⟩
        go_wp2_with fail
        refine (HSA.out _).mono ?_
        rintro e w' ⟨rfl, rfl⟩
        go_wp2_with fail
        refine (HSZ.out _).mono ?_
        rintro e w' ⟨rfl, rfl⟩
        go_wp2_with fail
        refine (HGA.out _).mono ?_
        rintro e w' ⟨rfl, rfl⟩
        go_wp2_with fail
        refine (HGZ.out _).mono ?_
        rintro e w' ⟨rfl, rfl⟩
        go_wp2_with fail
        refine (awake_any _).mono ?_
        rintro e w' ⟨rfl, rfl⟩
        go_wp2
        go_ret
        exact ⟨rfl, rfl⟩
      · go_enter Tryd.func6, Tryd.ntmps6
        go_wp2_with fail
        rw [HZ.out]
        refine (HSA.out _).mono ?_
        rintro e w' ⟨rfl, rfl⟩
        go_wp2_with fail
        refine (HSB.out _).mono ?_
        rintro e w' ⟨rfl, rfl⟩
        go_wp2_with fail
        refine (HGA.out _).mono ?_
        rintro e w' ⟨rfl, rfl⟩
        go_wp2_with fail
        refine (HGB.out _).mono ?_
        rintro e w' ⟨rfl, rfl⟩
        go_wp2_with fail
        refine (HSA.out _).mono ?_
        rintro e w' ⟨rfl, rfl⟩
        go_wp2_with fail
        refine (HSZ.out _).mono ?_
        rintro e w' ⟨rfl, rfl⟩
        go_wp2_with fail
        refine (HGA.out _).mono ?_
        rintro e w' ⟨rfl, rfl⟩
        go_wp2_with fail
        refine (HGZ.out _).mono ?_
        rintro e w' ⟨rfl, rfl⟩
        go_wp2_with fail
        refine (HTA.out _).mono ?_
        rintro e w' ⟨rfl, rfl⟩
        go_wp2_with fail
        refine (HTZ.out _).mono ?_
        rintro e w' ⟨rfl, rfl⟩
        go_wp2_with fail
        refine (awake_any _).mono ?_
        rintro e w' ⟨rfl, rfl⟩
        go_wp2
        go_ret
        exact ⟨rfl, rfl⟩
    · rcases hz2 with k1 | ⟨k1, k2⟩ | ⟨k1, k2, k3⟩
      · go_enter Tryd.func6, Tryd.ntmps6
        go_wp2_with fail
        rw [HZ.out]
        refine (HSA.out _).mono ?_
        rintro e w' ⟨rfl, rfl⟩
        go_wp2_with fail
        refine (HSB.out _).mono ?_
        rintro e w' ⟨rfl, rfl⟩
        go_wp2_with fail
        refine (HGA.out _).mono ?_
        rintro e w' ⟨rfl, rfl⟩
        go_wp2_with fail
        refine (HGB.out _).mono ?_
        rintro e w' ⟨rfl, rfl⟩
        go_wp2_with fail
        refine (HTA.out _).mono ?_
        rintro e w' ⟨rfl, rfl⟩
        go_wp2_with fail
        refine (HTB.out _).mono ?_
        rintro e w' ⟨rfl, rfl⟩
        go_wp2_with fail
        refine (HSA.out _).mono ?_
        rintro e w' ⟨rfl, rfl⟩
        go_wp2_with fail
        refine (HSZ.out _).mono ?_
        rintro e w' ⟨rfl, rfl⟩
        go_wp2_with fail
        refine (awake_any _).mono ?_
        rintro e w' ⟨rfl, rfl⟩
        go_wp2
        go_ret
        exact ⟨rfl, rfl⟩
      · go_enter Tryd.func6, Tryd.ntmps6
        go_wp2_with fail
        rw [HZ.out]
        refine (HSA.out _).mono ?_
        rintro e w' ⟨rfl, rfl⟩
        go_wp2_with fail
        refine (HSB.out _).mono ?_
        rintro e w' ⟨rfl, rfl⟩
        go_wp2_with fail
        refine (HGA.out _).mono ?_
        rintro e w' ⟨rfl, rfl⟩
        go_wp2_with fail
        refine (HGB.out _).mono ?_
        rintro e w' ⟨rfl, rfl⟩
        go_wp2_with fail
        refine (HTA.out _).mono ?_
        rintro e w' ⟨rfl, rfl⟩
        go_wp2_with fail
        refine (HTB.out _).mono ?_
        rintro e w' ⟨rfl, rfl⟩
        go_wp2_with fail
        refine (HSA.out _).mono ?_
        rintro e w' ⟨rfl, rfl⟩
        go_wp2_with fail
        refine (HSZ.out _).mono ?_
        rintro e w' ⟨rfl, rfl⟩
        go_wp2_with fail
        refine (HGA.out _).mono ?_
        rintro e w' ⟨rfl, rfl⟩
        go_wp2_with fail
        refine (HGZ.out _).mono ?_
        rintro e w' ⟨rfl, rfl⟩
        go_wp2_with fail
        refine (awake_any _).mono ?_
        rintro e w' ⟨rfl, rfl⟩
        go_wp2
        go_ret
        exact ⟨rfl, rfl⟩
      · go_enter Tryd.func6, Tryd.ntmps6
        go_wp2_with fail
        rw [HZ.out]
        refine (HSA.out _).mono ?_
        rintro e w' ⟨rfl, rfl⟩
        go_wp2_with fail
        refine (HSB.out _).mono ?_
        rintro e w' ⟨rfl, rfl⟩
        go_wp2_with fail
        refine (HGA.out _).mono ?_
        rintro e w' ⟨rfl, rfl⟩
        go_wp2_with fail
        refine (HGB.out _).mono ?_
        rintro e w' ⟨rfl, rfl⟩
        go_wp2_with fail
        refine (HTA.out _).mono ?_
        rintro e w' ⟨rfl, rfl⟩
        go_wp2_with fail
        refine (HTB.out _).mono ?_
        rintro e w' ⟨rfl, rfl⟩
        go_wp2_with fail
        refine (HSA.out _).mono ?_
        rintro e w' ⟨rfl, rfl⟩
        go_wp2_with fail
        refine (HSZ.out _).mono ?_
        rintro e w' ⟨rfl, rfl⟩
        go_wp2_with fail
        refine (HGA.out _).mono ?_
        rintro e w' ⟨rfl, rfl⟩
        go_wp2_with fail
        refine (HGZ.out _).mono ?_
        rintro e w' ⟨rfl, rfl⟩
        go_wp2_with fail
        refine (HTA.out _).mono ?_
        rintro e w' ⟨rfl, rfl⟩
        go_wp2_with fail
        refine (HTZ.out _).mono ?_
        rintro e w' ⟨rfl, rfl⟩
        go_wp2_with fail
        refine (awake_any _).mono ?_
        rintro e w' ⟨rfl, rfl⟩
        go_wp2
        go_ret
        exact ⟨rfl, rfl⟩
theorem handlePack_walk (s g t a b c : Int) (_ : (Lit.int .i64 s).wf = true) (_ : (Lit.int .i64 g).wf = true) (_ : (Lit.int .i64 t).wf = true) (ha : (Lit.int .u32 a).wf = true) (hb : (Lit.int .u32 b).wf = true) (hc : (Lit.int .u16 c).wf = true) (w : World) {P : Program} {l : List (String × DataW Unit)} (_ : laidMetH P l w) :
    Calls Tryd.prog 3 #[.int .i64 s, .int .i64 g, .int .i64 t, .int .u32 a, .int .u32 b, .int .u16 c] w fun e w' => e = .returned (.bool true) ∧ Grown w w' := by
  refine (pack_walk s g t a b c (bounds_u32 ha).1 (bounds_u32 ha).2 (bounds_u32 hb).1 (bounds_u32 hb).2 (bounds_u16 hc).1 (bounds_u16 hc).2 w).mono ?_
  rintro e w' ⟨rfl, rfl⟩
  exact ⟨rfl, Grown.refl _⟩
theorem handleBack_walk (x a b c : Int) (h : (Lit.int .u64 x).wf = true) (ha : (Lit.int .u32 a).wf = true) (hb : (Lit.int .u32 b).wf = true) (hc : (Lit.int .u8 c).wf = true) (w : World) {P : Program} {l : List (String × DataW Unit)} (_ : laidMetH P l w) :
    Calls Tryd.prog 5 #[.int .u64 x, .int .u32 a, .int .u32 b, .int .u8 c] w fun e w' => e = .returned (.bool true) ∧ Grown w w' := by
  refine (back_walk x a b c (u64_bd h).1 (u64_bd h).2 (bounds_u32 ha).1 (bounds_u32 ha).2 (bounds_u32 hb).1 (bounds_u32 hb).2 (bounds_u8 hc).1 (bounds_u8 hc).2 w).mono ?_
  rintro e w' ⟨rfl, rfl⟩
  exact ⟨rfl, Grown.refl _⟩
theorem handleApart_walk (a b c : Int) (ha : (Lit.int .u64 a).wf = true) (hb : (Lit.int .u64 b).wf = true) (hc : (Lit.int .u8 c).wf = true) (w : World) {P : Program} {l : List (String × DataW Unit)} (_ : laidMetH P l w) :
    Calls Tryd.prog 6 #[.int .u64 a, .int .u64 b, .int .u8 c] w fun e w' => e = .returned (.bool true) ∧ Grown w w' := by
  refine (apart_walk a b c (u64_bd ha).1 (u64_bd ha).2 (u64_bd hb).1 (u64_bd hb).2 (bounds_u8 hc).1 (bounds_u8 hc).2 w).mono ?_
  rintro e w' ⟨rfl, rfl⟩
  exact ⟨rfl, Grown.refl _⟩
end Go.Proofs.YtbmajggpfojnkaaDoor
