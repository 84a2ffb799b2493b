/-
  Plain facts on the bits of 64-bit words, which the proofs of this seat use. No Go in sight, no conditions beyond those that each lemma states.
-/
import Derived.Laws.BitsAllLaws
import Derived.IntWalk
import Derived.RowKit
namespace Go.Proofs.YtbmajggpfojnkaaDoor
open Go.RowKit

theorem and24 (x : Int) (h0 : 0 ≤ x) (h1 : x < 18446744073709551616) : bits .and .u64 x 16777215 = x % 16777216 := by
  rw [u64_and x 16777215 h0 h1 (by decide) (by decide)]
  rw [show ((16777215 : Int).toNat) = 2 ^ 24 - 1 by decide, Nat.and_two_pow_sub_one_eq_mod]
  omega
theorem and32 (x : Int) (h0 : 0 ≤ x) (h1 : x < 18446744073709551616) : bits .and .u64 x 4294967295 = x % 4294967296 := by
  rw [u64_and x 4294967295 h0 h1 (by decide) (by decide)]
  rw [show ((4294967295 : Int).toNat) = 2 ^ 32 - 1 by decide, Nat.and_two_pow_sub_one_eq_mod]
  omega
theorem and8 (x : Int) (h0 : 0 ≤ x) (h1 : x < 18446744073709551616) : bits .and .u64 x 255 = x % 256 := by
  rw [u64_and x 255 h0 h1 (by decide) (by decide)]
  rw [show ((255 : Int).toNat) = 2 ^ 8 - 1 by decide, Nat.and_two_pow_sub_one_eq_mod]
  omega
theorem w64_in (x : Int) (h0 : 0 ≤ x) (h1 : x < 9223372036854775808) : wrap64 x = x := by
  unfold wrap64; omega
theorem u64_in (x : Int) (h0 : 0 ≤ x) (h1 : x < 18446744073709551616) : IntKind.u64.wrap x = x := by
  rw [IntKind.wrap_u64]; omega

/-- The word with these parts. -/
def word (a b c : Int) : Int := a + b * 16777216 + c * 72057594037927936

theorem or_join (a b c : Int) (a0 : 0 ≤ a) (a1 : a ≤ 16777215) (b0 : 0 ≤ b) (b1 : b ≤ 4294967295) (c0 : 0 ≤ c) (c1 : c ≤ 255) :
    bits .or .u64 (bits .or .u64 a (b * 16777216)) (c * 72057594037927936) = word a b c := by
  rw [u64_or a (b * 16777216) (by omega) (by omega) (by omega) (by omega)]
  have e1 : a.toNat ||| (b * 16777216).toNat = a.toNat + (b * 16777216).toNat := by
    rw [Nat.or_comm, nat_join 24 _ _ (by omega) (by omega)]; omega
  rw [e1, u64_or _ (c * 72057594037927936) (by omega) (by omega) (by omega) (by omega)]
  have e2 : ((a.toNat + (b * 16777216).toNat : Nat) : Int).toNat ||| (c * 72057594037927936).toNat = (a.toNat + (b * 16777216).toNat) + (c * 72057594037927936).toNat := by
    rw [Nat.or_comm, nat_join 56 _ _ (by omega) (by omega)]; omega
  rw [e2]
  unfold word
  omega
theorem sum_join (a b c : Int) : c * 72057594037927936 + b * 16777216 + a = word a b c := by unfold word; omega
theorem word_bd (a b c : Int) (a0 : 0 ≤ a) (a1 : a ≤ 16777215) (b0 : 0 ≤ b) (b1 : b ≤ 4294967295) (c0 : 0 ≤ c) (c1 : c ≤ 255) : 0 ≤ word a b c ∧ word a b c < 18446744073709551616 := by
  unfold word; omega
theorem word_slot (a b c : Int) (a0 : 0 ≤ a) (a1 : a ≤ 16777215) : word a b c % 16777216 = a := by unfold word; omega
theorem word_gen (a b c : Int) (a0 : 0 ≤ a) (a1 : a ≤ 16777215) (b0 : 0 ≤ b) (b1 : b ≤ 4294967295) : word a b c / 16777216 % 4294967296 = b := by unfold word; omega
theorem word_tag (a b c : Int) (a0 : 0 ≤ a) (a1 : a ≤ 16777215) (b0 : 0 ≤ b) (b1 : b ≤ 4294967295) : word a b c / 72057594037927936 = c := by unfold word; omega
theorem word_parts (x : Int) : word (x % 16777216) (x / 16777216 % 4294967296) (x / 72057594037927936) = x := by unfold word; omega
/-- The parts are in range. -/
def fits (a b c : Int) : Bool := decide (0 ≤ a ∧ a ≤ 16777215 ∧ 1 ≤ b ∧ b ≤ 4294967295 ∧ 1 ≤ c ∧ c ≤ 255)
theorem fits_true {a b c : Int} (h : fits a b c = true) : 0 ≤ a ∧ a ≤ 16777215 ∧ 1 ≤ b ∧ b ≤ 4294967295 ∧ 1 ≤ c ∧ c ≤ 255 := by simpa [fits] using h
theorem fits_false {a b c : Int} (h : fits a b c = false) : ¬ (0 ≤ a ∧ a ≤ 16777215 ∧ 1 ≤ b ∧ b ≤ 4294967295 ∧ 1 ≤ c ∧ c ≤ 255) := by
  intro g; have : fits a b c = true := by simpa [fits] using g
  rw [h] at this; cases this
/-- What Pack answers: the word and the error's number. -/
def packW (a b c : Int) : Int := if fits a b c then word a b c else 0
def packE (a b c : Int) : Int := if fits a b c then 0 else 1
end Go.Proofs.YtbmajggpfojnkaaDoor
