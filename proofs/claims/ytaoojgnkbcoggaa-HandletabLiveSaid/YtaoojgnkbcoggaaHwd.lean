/-
  Words and their parts as plain functions; contracts of package handle's Slot, Gen, Tag, Valid and Pack, and of the definition's Slot, Gen and Pack. Conditions: words are numbers from 0 up to 2^64 - 1; Pack of parts in range.
-/
import Derived.Test.YtaoojgnkbcoggaaCell
import Derived.Laws.BitsAllLaws
import Derived.IntWalk
import Derived.RowKit
import Derived.WalkKit
import Derived.ProofKit
import Derived.OpenShut
import Derived.Outline
import Derived.WalkLawsBesides
import Derived.Lib.Hide
namespace Go.Proofs.Ytaoojgnkbcoggaa
open Go.ChangeShapes Go.WideShapes Go.ChangeAt Go.RowKit
set_option maxHeartbeats 400000

theorem and24 (x : Int) (h0 : 0 ≤ x) (h1 : x < 18446744073709551616) : bits .and .u64 x 16777215 = x % 16777216 := by
  rw [u64_and x 16777215 h0 h1 (by decide) (by decide)]
  rw [show ((16777215 : Int).toNat) = 2 ^ 24 - 1 by decide, Nat.and_two_pow_sub_one_eq_mod]
  omega
theorem and32 (x : Int) (h0 : 0 ≤ x) (h1 : x < 18446744073709551616) : bits .and .u64 x 4294967295 = x % 4294967296 := by
  rw [u64_and x 4294967295 h0 h1 (by decide) (by decide)]
  rw [show ((4294967295 : Int).toNat) = 2 ^ 32 - 1 by decide, Nat.and_two_pow_sub_one_eq_mod]
  omega
theorem and8 (x : Int) (h0 : 0 ≤ x) (h1 : x < 18446744073709551616) : bits .and .u64 x 255 = x % 256 := by
  rw [u64_and x 255 h0 h1 (by decide) (by decide)]
  rw [show ((255 : Int).toNat) = 2 ^ 8 - 1 by decide, Nat.and_two_pow_sub_one_eq_mod]
  omega
theorem w64_in (x : Int) (h0 : 0 ≤ x) (h1 : x < 9223372036854775808) : wrap64 x = x := by
  unfold wrap64; omega
/-- The word with these parts. -/
def word (a b c : Int) : Int := a + b * 16777216 + c * 72057594037927936
theorem or_join (a b c : Int) (a0 : 0 ≤ a) (a1 : a ≤ 16777215) (b0 : 0 ≤ b) (b1 : b ≤ 4294967295) (c0 : 0 ≤ c) (c1 : c ≤ 255) :
    bits .or .u64 (bits .or .u64 a (b * 16777216)) (c * 72057594037927936) = word a b c := by
  rw [u64_or a (b * 16777216) (by omega) (by omega) (by omega) (by omega)]
  have e1 : a.toNat ||| (b * 16777216).toNat = a.toNat + (b * 16777216).toNat := by
    rw [Nat.or_comm, nat_join 24 _ _ (by omega) (by omega)]; omega
  rw [e1, u64_or _ (c * 72057594037927936) (by omega) (by omega) (by omega) (by omega)]
  have e2 : ((a.toNat + (b * 16777216).toNat : Nat) : Int).toNat ||| (c * 72057594037927936).toNat = (a.toNat + (b * 16777216).toNat) + (c * 72057594037927936).toNat := by
    rw [Nat.or_comm, nat_join 56 _ _ (by omega) (by omega)]; omega
  rw [e2]
  unfold word
  omega
/-- The parts of a word. -/
def wSl (x : Int) : Int := x % 16777216
def wGn (x : Int) : Int := x / 16777216 % 4294967296
def wTg (x : Int) : Int := x / 72057594037927936
/-- A number of 64 bits. -/
def U64 (x : Int) : Prop := 0 ≤ x ∧ x < 18446744073709551616
theorem sum_join (a b c : Int) : c * 72057594037927936 + b * 16777216 + a = word a b c := by unfold word; omega
section
variable {a b c x : Int}
theorem word_bd (ha : 0 ≤ a ∧ a ≤ 16777215) (hb : 0 ≤ b ∧ b ≤ 4294967295) (hc : 0 ≤ c ∧ c ≤ 255) : U64 (word a b c) := by unfold word U64; omega
theorem word_slot (ha : 0 ≤ a ∧ a ≤ 16777215) : wSl (word a b c) = a := by unfold word wSl; omega
theorem word_gen (ha : 0 ≤ a ∧ a ≤ 16777215) (hb : 0 ≤ b ∧ b ≤ 4294967295) : wGn (word a b c) = b := by unfold word wGn; omega
theorem word_tag (ha : 0 ≤ a ∧ a ≤ 16777215) (hb : 0 ≤ b ∧ b ≤ 4294967295) : wTg (word a b c) = c := by unfold word wTg; omega
theorem word_parts (x : Int) : word (wSl x) (wGn x) (wTg x) = x := by unfold word wSl wGn wTg; omega
theorem wSl_bd : 0 ≤ wSl x ∧ wSl x ≤ 16777215 := by unfold wSl; omega
theorem wGn_bd : 0 ≤ wGn x ∧ wGn x ≤ 4294967295 := by unfold wGn; omega
theorem wTg_bd (h : U64 x) : 0 ≤ wTg x ∧ wTg x ≤ 255 := by unfold wTg; unfold U64 at h; omega
end
theorem ret_int {k : IntKind} {a b : Int} (h : a = b) : Ending.returned (.int k a) = .returned (.int k b) := by rw [h]
theorem slot_any (x : Int) (h : U64 x) (w : World) : Calls Try.prog 35 #[.int .u64 x] w fun e w' => e = .returned (.int .i64 (wSl x)) ∧ w = w' := by
  obtain ⟨h0, h1⟩ := h
  go_enter Try.func35, Try.ntmps35
  go_wp2
  go_ret
  exact ⟨ret_int (by rw [and24 x h0 h1, w64_in _ (by omega) (by omega)]; rfl), rfl⟩
theorem gen_any (x : Int) (h : U64 x) (w : World) : Calls Try.prog 39 #[.int .u64 x] w fun e w' => e = .returned (.int .i64 (wGn x)) ∧ w = w' := by
  obtain ⟨h0, h1⟩ := h
  go_enter Try.func39, Try.ntmps39
  go_wp2
  go_ret
  exact ⟨ret_int (by rw [and32 _ (by omega) (by omega), w64_in _ (by omega) (by omega)]; rfl), rfl⟩
theorem tag_any (x : Int) (h : U64 x) (w : World) : Calls Try.prog 40 #[.int .u64 x] w fun e w' => e = .returned (.int .i64 (wTg x)) ∧ w = w' := by
  obtain ⟨h0, h1⟩ := h
  go_enter Try.func40, Try.ntmps40
  go_wp2
  go_ret
  exact ⟨ret_int (by rw [and8 _ (by omega) (by omega), w64_in _ (by omega) (by omega)]; unfold wTg; omega), rfl⟩
theorem slotR_any (x : Int) (h : U64 x) (w : World) : Calls Try.prog 22 #[.int .u64 x] w fun e w' => e = .returned (.int .i64 (wSl x)) ∧ w = w' := by
  obtain ⟨h0, h1⟩ := h
  go_enter Try.func22, Try.ntmps22
  go_wp2
  go_ret
  exact ⟨rfl, rfl⟩
theorem genR_any (x : Int) (h : U64 x) (w : World) : Calls Try.prog 42 #[.int .u64 x] w fun e w' => e = .returned (.int .i64 (wGn x)) ∧ w = w' := by
  obtain ⟨h0, h1⟩ := h
  go_enter Try.func42, Try.ntmps42
  go_wp2
  go_ret
  exact ⟨rfl, rfl⟩
/-- A word that Pack may return. -/
def okW (x : Int) : Bool := decide (wGn x ≠ 0 ∧ wTg x ≠ 0)
theorem valid_any (x : Int) (h : U64 x) (w : World) : Calls Try.prog 65 #[.int .u64 x] w fun e w' => e = .returned (.bool (okW x)) ∧ w = w' := by
  have HG := Lib.hid (fun W => gen_any x h W)
  have HT := Lib.hid (fun W => tag_any x h W)
  clear h
  by_cases hg : wGn x = 0
  · have e : okW x = false := decide_eq_false (by omega)
    have hb : (wGn x != 0) = false := by simpa using hg
    rw [e]
    go_enter Try.func65, Try.ntmps65
    go_wp2_with fail
    refine (HG.out _).mono ?_
    rintro e w2 ⟨rfl, rfl⟩
    go_wp2
    go_ret
    exact ⟨rfl, rfl⟩
  · have hb : (wGn x != 0) = true := by simpa using hg
    have HV : Hid (okW x = (wTg x != 0)) := Lib.hid (by
      unfold okW
      by_cases ht : wTg x = 0 <;> simp [hg, ht])
    go_enter Try.func65, Try.ntmps65
    go_wp2_with fail
    refine (HG.out _).mono ?_
    rintro e w2 ⟨rfl, rfl⟩
    go_wp2_with fail
    refine (HT.out _).mono ?_
    rintro e w2 ⟨rfl, rfl⟩
    go_wp2
    go_ret
    exact ⟨by rw [HV.out]; rfl, rfl⟩
theorem join_any (a b c : Int) (ha : 0 ≤ a ∧ a ≤ 16777215) (hb : 0 ≤ b ∧ b ≤ 4294967295) (hc : 0 ≤ c ∧ c ≤ 255) (w : World) : Calls Try.prog 58 #[.int .u64 a, .int .u64 b, .int .u64 c] w fun e w' => e = .returned (.int .u64 (word a b c)) ∧ w = w' := by
  obtain ⟨a0, a1⟩ := ha
  obtain ⟨b0, b1⟩ := hb
  obtain ⟨c0, c1⟩ := hc
  go_enter Try.func58, Try.ntmps58
  go_wp2
  go_ret
  exact ⟨ret_int (or_join a b c a0 a1 b0 b1 c0 c1), rfl⟩
theorem pack_any (a b c : Int) (ha : 0 ≤ a ∧ a ≤ 16777215) (hb : 1 ≤ b ∧ b ≤ 4294967295) (hc : 1 ≤ c ∧ c ≤ 255) (w : World) : Calls Try.prog 47 #[.int .i64 a, .int .i64 b, .int .i64 c] w fun e w' => e = .returned (.tuple #[.int .u64 (word a b c), .int .i64 0]) ∧ w = w' := by
  obtain ⟨a0, a1⟩ := ha
  obtain ⟨b0, b1⟩ := hb
  obtain ⟨c0, c1⟩ := hc
  go_enter Try.func47, Try.ntmps47
  go_wp2_with (first | (go_at_call 58; refine (join_any _ _ _ ⟨by omega, by omega⟩ ⟨by omega, by omega⟩ ⟨by omega, by omega⟩ _).mono ?_; rintro e w' ⟨rfl, rfl⟩) | go_in)
  go_ret2
  exact ⟨rfl, rfl⟩
theorem packR_any (a b c : Int) (ha : 0 ≤ a ∧ a ≤ 16777215) (hb : 1 ≤ b ∧ b ≤ 4294967295) (hc : 1 ≤ c ∧ c ≤ 255) (w : World) : Calls Try.prog 54 #[.int .i64 a, .int .i64 b, .int .i64 c] w fun e w' => e = .returned (.tuple #[.int .u64 (word a b c), .int .i64 0]) ∧ w = w' := by
  obtain ⟨a0, a1⟩ := ha
  obtain ⟨b0, b1⟩ := hb
  obtain ⟨c0, c1⟩ := hc
  rw [← sum_join]
  go_enter Try.func54, Try.ntmps54
  go_wp2
  go_ret2
  exact ⟨rfl, rfl⟩
end Go.Proofs.Ytaoojgnkbcoggaa
