/-
  Numbers in groups of seven bits, as lists of bytes: the encoding, what reading the beginning of a list gives, and that the one undoes the other. Plain mathematics; no conditions beyond those that each lemma states.
-/
import Derived.Laws.BitsAllLaws
import Derived.IntWalk
import Derived.RowKit
namespace Go.Proofs.Ytlgoiccekgjhnaa
open Go.RowKit

/-- The encoding of a number. -/
def enc (n : Nat) : List Int := if n < 128 then [(n : Int)] else ((n % 128 + 128 : Nat) : Int) :: enc (n / 128)
termination_by n
decreasing_by omega
theorem enc_small {n : Nat} (h : n < 128) : enc n = [(n : Int)] := by rw [enc, if_pos h]
theorem enc_big {n : Nat} (h : 128 ≤ n) : enc n = ((n % 128 + 128 : Nat) : Int) :: enc (n / 128) := by rw [enc, if_neg (by omega)]

/-- How many bytes at the beginning have their top bit set. -/
def top : List Int → Nat
  | [] => 0
  | c :: r => if 128 ≤ c then top r + 1 else 0
theorem top_le : ∀ l : List Int, top l ≤ l.length
  | [] => by simp [top]
  | c :: r => by
    have := top_le r
    unfold top
    split <;> simp <;> omega
theorem top_ge : ∀ (l : List Int) (i : Nat), i ≤ l.length → (∀ j, j < i → 128 ≤ l.getD j 0) → i ≤ top l
  | _, 0, _, _ => Nat.zero_le _
  | [], i + 1, h, _ => by simp at h
  | c :: r, i + 1, h, ha => by
    have h0 := ha 0 (by omega)
    simp at h0
    have := top_ge r i (by simpa using h) (fun j hj => by have := ha (j + 1) (by omega); simpa using this)
    unfold top
    rw [if_pos h0]
    omega
theorem top_eq : ∀ (l : List Int) (i : Nat), i < l.length → (∀ j, j < i → 128 ≤ l.getD j 0) → l.getD i 0 < 128 → top l = i
  | [], i, h, _, _ => by simp at h
  | c :: r, 0, _, _, hc => by
    simp at hc
    unfold top
    rw [if_neg (by omega)]
  | c :: r, i + 1, h, ha, hc => by
    have h0 := ha 0 (by omega)
    simp at h0
    have := top_eq r i (by simpa using h) (fun j hj => by have := ha (j + 1) (by omega); simpa using this) (by simpa using hc)
    unfold top
    rw [if_pos h0, this]

/-- The number that groups stand for. -/
def val : List Int → Int
  | [] => 0
  | c :: r => c % 128 + 128 * val r
theorem val_nonneg : ∀ l : List Int, 0 ≤ val l
  | [] => Int.le_refl _
  | c :: r => by have := val_nonneg r; unfold val; omega
theorem val_lt : ∀ l : List Int, val l < 128 ^ l.length
  | [] => by simp [val]
  | c :: r => by
    have h1 := val_lt r
    have h2 := val_nonneg r
    rw [val, List.length_cons, Int.pow_succ]
    omega
theorem val_snoc : ∀ (l : List Int) (c : Int), val (l ++ [c]) = val l + c % 128 * 128 ^ l.length
  | [], c => by simp [val]
  | d :: r, c => by
    have := val_snoc r c
    simp only [List.cons_append, val, this, List.length_cons, Int.pow_succ]
    rw [Int.mul_add, Int.mul_comm (128 ^ r.length) 128, ← Int.mul_assoc, ← Int.mul_assoc, Int.mul_comm 128 (c % 128)]
    omega

/-- Whether c can be the last byte, at the index i. -/
def endB (c i : Int) : Bool := decide (i = 0 ∨ (c ≠ 0 ∧ (i < 9 ∨ c ≤ 1)))
/-- What reading a number gives: the error, the number, the size. -/
def rdE (l : List Int) : Int := if l.length < 10 ∧ top l = l.length then 2 else if 10 ≤ top l then 3 else if endB (l.getD (top l) 0) (top l) then 0 else 3
def rdX (l : List Int) : Int := if rdE l = 0 then val (l.take (top l + 1)) else 0
def rdK (l : List Int) : Int := if rdE l = 0 then (top l : Int) + 1 else 0
/-- The three together. -/
def Rd (l : List Int) (x k e : Int) : Prop := rdX l = x ∧ rdK l = k ∧ rdE l = e
theorem rd_self (l : List Int) : Rd l (rdX l) (rdK l) (rdE l) := ⟨rfl, rfl, rfl⟩
theorem rd_trunc {l : List Int} (h : l.length < 10) (ha : ∀ j, j < l.length → 128 ≤ l.getD j 0) : Rd l 0 0 2 := by
  have e : rdE l = 2 := by
    have h1 := top_ge l l.length (Nat.le_refl _) ha
    have h2 := top_le l
    unfold rdE
    rw [if_pos ⟨h, by omega⟩]
  exact ⟨by simp [rdX, e], by simp [rdK, e], e⟩
theorem rd_long {l : List Int} (h : 10 ≤ l.length) (ha : ∀ j, j < 10 → 128 ≤ l.getD j 0) : Rd l 0 0 3 := by
  have e : rdE l = 3 := by
    have h1 := top_ge l 10 h ha
    unfold rdE
    rw [if_neg (by omega), if_pos h1]
  exact ⟨by simp [rdX, e], by simp [rdK, e], e⟩
theorem rd_bad {l : List Int} {i : Nat} (h : i < l.length) (h10 : i < 10) (ha : ∀ j, j < i → 128 ≤ l.getD j 0) (hc : l.getD i 0 < 128) (hb : endB (l.getD i 0) i = false) : Rd l 0 0 3 := by
  have ht := top_eq l i h ha hc
  have e : rdE l = 3 := by
    unfold rdE
    rw [ht, if_neg (by omega), if_neg (by omega), hb]
    rfl
  exact ⟨by simp [rdX, e], by simp [rdK, e], e⟩
theorem rd_ok {l : List Int} {i : Nat} (h : i < l.length) (h10 : i < 10) (ha : ∀ j, j < i → 128 ≤ l.getD j 0) (hc : l.getD i 0 < 128) (hb : endB (l.getD i 0) i = true) : Rd l (val (l.take (i + 1))) (i + 1) 0 := by
  have ht := top_eq l i h ha hc
  have e : rdE l = 0 := by
    unfold rdE
    rw [ht, if_neg (by omega), if_neg (by omega), hb]
    rfl
  exact ⟨by simp [rdX, e, ht], by simp [rdK, e, ht], e⟩
theorem rdE_cases (l : List Int) : rdE l = 0 ∨ rdE l = 2 ∨ rdE l = 3 := by
  unfold rdE
  split
  · simp
  · split
    · simp
    · split <;> simp

/-- Of ten groups the last of which is at most 1. -/
theorem val_lt64 {l : List Int} {i : Nat} (hi : i < 10) (hl : i < l.length) (h9 : i = 9 → 0 ≤ l.getD 9 0 ∧ l.getD 9 0 ≤ 1) : val (l.take (i + 1)) < 18446744073709551616 := by
  by_cases h : i = 9
  · subst h
    obtain ⟨h0, h1⟩ := h9 rfl
    have e : l.take (9 + 1) = l.take 9 ++ [l.getD 9 0] := by
      rw [List.take_succ_eq_append_getElem hl]
      simp [List.getD, hl]
    have hb := val_lt (l.take 9)
    have hlen : (l.take 9).length = 9 := by rw [List.length_take]; omega
    rw [hlen] at hb
    rw [e, val_snoc, hlen]
    generalize l.getD 9 0 = c at h0 h1
    have hm : c % 128 = c := by omega
    rw [hm]
    have : (128 : Int) ^ 9 = 9223372036854775808 := by decide
    rw [this] at hb ⊢
    omega
  · have hb := val_lt (l.take (i + 1))
    have hlen : (l.take (i + 1)).length = i + 1 := by rw [List.length_take]; omega
    rw [hlen] at hb
    have h2 : (128 : Int) ^ (i + 1) ≤ 128 ^ 9 := by
      have : (128 : Nat) ^ (i + 1) ≤ 128 ^ 9 := Nat.pow_le_pow_right (by omega) (by omega)
      exact_mod_cast this
    have : (128 : Int) ^ 9 = 9223372036854775808 := by decide
    omega

/-- Every byte of an encoding is a byte. -/
theorem enc_bytes (n : Nat) : ∀ x ∈ enc n, 0 ≤ x ∧ x ≤ 255 := by
  induction n using Nat.strongRecOn with
  | ind n ih =>
    by_cases h : n < 128
    · rw [enc_small h]
      intro x hx
      obtain rfl : x = (n : Int) := by simpa using hx
      omega
    · rw [enc_big (by omega)]
      intro x hx
      rcases List.mem_cons.1 hx with rfl | hx
      · omega
      · exact ih (n / 128) (by omega) x hx
theorem enc_pos (n : Nat) : 0 < (enc n).length := by
  rw [enc]; split <;> simp
/-- The length of an encoding: at most k groups for numbers below 128^k. -/
theorem enc_len : ∀ (k n : Nat), n < 128 ^ (k + 1) → (enc n).length ≤ k + 1
  | 0, n, h => by rw [enc_small (by simpa using h)]; simp
  | k + 1, n, h => by
    by_cases h1 : n < 128
    · rw [enc_small h1]; simp
    · rw [enc_big (by omega)]
      have := enc_len k (n / 128) (by rw [Nat.pow_succ] at h; omega)
      simp; omega
theorem enc_len10 {n : Nat} (h : n < 18446744073709551616) : (enc n).length ≤ 10 :=
  enc_len 9 n (by have : (128 : Nat) ^ (9 + 1) = 1180591620717411303424 := by decide
                  omega)
/-- What stands at the beginning of an encoding followed by anything. -/
theorem enc_top : ∀ (n : Nat) (more : List Int), top (enc n ++ more) + 1 = (enc n).length := by
  intro n more
  induction n using Nat.strongRecOn with
  | ind n ih =>
    by_cases h : n < 128
    · rw [enc_small h]
      simp [top]; omega
    · rw [enc_big (by omega)]
      have := ih (n / 128) (by omega)
      simp only [List.cons_append, top, List.length_cons]
      rw [if_pos (by omega)]
      omega
theorem enc_val (n : Nat) : val (enc n) = n := by
  induction n using Nat.strongRecOn with
  | ind n ih =>
    by_cases h : n < 128
    · rw [enc_small h]
      simp [val]; omega
    · rw [enc_big (by omega), val, ih (n / 128) (by omega)]
      omega
/-- The last byte of an encoding: not 0 unless it is the only one, and small where it is the tenth. -/
theorem enc_last : ∀ (k n : Nat) (more : List Int), (enc n).length = k + 1 → (enc n ++ more).getD k 0 = (n / 128 ^ k : Nat) ∧ (0 < k → 0 < n / 128 ^ k) ∧ n / 128 ^ k < 128
  | 0, n, more, h => by
    by_cases h1 : n < 128
    · rw [enc_small h1]; simp; omega
    · rw [enc_big (by omega)] at h
      have := enc_pos (n / 128)
      rw [List.length_cons] at h; omega
  | k + 1, n, more, h => by
    by_cases h1 : n < 128
    · rw [enc_small h1] at h; simp at h
    · rw [enc_big (by omega)] at h ⊢
      obtain ⟨a, b, c⟩ := enc_last k (n / 128) more (by simpa using h)
      rw [Nat.pow_succ, Nat.mul_comm, ← Nat.div_div_eq_div_mul]
      refine ⟨by simpa using a, fun _ => ?_, c⟩
      by_cases hk : 0 < k
      · exact b hk
      · obtain rfl : k = 0 := by omega
        simp; omega
theorem rd_enc {n : Nat} (h : n < 18446744073709551616) (more : List Int) : Rd (enc n ++ more) n (enc n).length 0 := by
  have ht := enc_top n more
  have h10 := enc_len10 h
  have hp := enc_pos n
  obtain ⟨k, hk⟩ : ∃ k, (enc n).length = k + 1 := ⟨(enc n).length - 1, by omega⟩
  have htk : top (enc n ++ more) = k := by omega
  obtain ⟨a, b, c⟩ := enc_last k n more hk
  have he : endB ((enc n ++ more).getD k 0) k = true := by
    rw [a]
    unfold endB
    rw [decide_eq_true_iff]
    by_cases h0 : k = 0
    · left; omega
    · right
      have := b (by omega)
      refine ⟨by omega, ?_⟩
      by_cases h9 : k = 9
      · right
        subst h9
        have e9 : (128 : Nat) ^ 9 = 9223372036854775808 := by decide
        rw [e9]
        omega
      · left; omega
  have e : rdE (enc n ++ more) = 0 := by
    unfold rdE
    rw [htk, if_neg (by rw [List.length_append]; omega), if_neg (by omega), he]
    rfl
  refine ⟨?_, ?_, e⟩
  · rw [rdX, if_pos e, htk, ← hk, List.take_left, enc_val]
  · rw [rdK, if_pos e, htk, hk]; omega
/-- No proper beginning of an encoding is one. -/
theorem enc_high : ∀ (n k : Nat), k + 1 < (enc n).length → 128 ≤ (enc n).getD k 0 := by
  intro n
  induction n using Nat.strongRecOn with
  | ind n ih =>
    intro k hk
    by_cases h : n < 128
    · rw [enc_small h] at hk; simp at hk
    · rw [enc_big (by omega)] at hk ⊢
      cases k with
      | zero => simp; omega
      | succ k =>
        have := ih (n / 128) (by omega) k (by simpa using hk)
        simpa using this
theorem rd_cut {n : Nat} (h : n < 18446744073709551616) {k : Nat} (hk : k < (enc n).length) : Rd ((enc n).take k) 0 0 2 := by
  have h10 := enc_len10 h
  refine rd_trunc (by rw [List.length_take]; omega) (fun j hj => ?_)
  rw [List.length_take] at hj
  have := enc_high n j (by omega)
  have e : ((enc n).take k).getD j 0 = (enc n).getD j 0 := by simp [List.getD, show j < k by omega]
  rw [e]
  exact this

/-- What reading a byte string gives: the error, the bytes, the size. -/
def rbE (l : List Int) : Int := if rdE l = 0 then (if 65536 < rdX l then 4 else if (l.length : Int) - rdK l < rdX l then 2 else 0) else rdE l
def rbS (l : List Int) : List Int := if rbE l = 0 then (l.drop (rdK l).toNat).take (rdX l).toNat else []
def rbK (l : List Int) : Int := if rbE l = 0 then rdK l + rdX l else 0
theorem rd_bd {l : List Int} (hl : ∀ x ∈ l, 0 ≤ x ∧ x ≤ 255) : 0 ≤ rdX l ∧ rdX l < 18446744073709551616 ∧ 0 ≤ rdK l ∧ rdK l ≤ l.length ∧ rdK l ≤ 10 := by
  unfold rdX rdK
  by_cases h : rdE l = 0
  · rw [if_pos h, if_pos h]
    unfold rdE at h
    split at h
    · cases h
    · split at h
      · cases h
      · split at h
        · rename_i h1 h2 h3
          have ht := top_le l
          have hlt : top l < l.length := by
            rcases Nat.lt_or_ge (top l) l.length with h4 | h4
            · exact h4
            · exact absurd ⟨by omega, by omega⟩ h1
          refine ⟨val_nonneg _, val_lt64 (by omega) hlt (fun h9 => ?_), by omega, by omega, by omega⟩
          have hm : l.getD 9 0 ∈ l := by
            rw [h9] at hlt
            simp [List.getD, hlt]
          refine ⟨(hl _ hm).1, ?_⟩
          rw [h9] at h3
          unfold endB at h3
          rw [decide_eq_true_iff] at h3
          omega
        · cases h
  · rw [if_neg h, if_neg h]
    omega
theorem rb_err {l : List Int} {e : Int} (h : rdE l = e) (he : e ≠ 0) : rbE l = e ∧ rbS l = [] ∧ rbK l = 0 := by
  have h1 : rbE l = e := by rw [rbE, if_neg (by omega), h]
  exact ⟨h1, by simp [rbS, h1, he], by simp [rbK, h1, he]⟩
theorem rb_big {l : List Int} (h : rdE l = 0) (hx : 65536 < rdX l) : rbE l = 4 ∧ rbS l = [] ∧ rbK l = 0 := by
  have h1 : rbE l = 4 := by rw [rbE, if_pos h, if_pos hx]
  exact ⟨h1, by simp [rbS, h1], by simp [rbK, h1]⟩
theorem rb_cut {l : List Int} (h : rdE l = 0) (hx : rdX l ≤ 65536) (hc : (l.length : Int) - rdK l < rdX l) : rbE l = 2 ∧ rbS l = [] ∧ rbK l = 0 := by
  have h1 : rbE l = 2 := by rw [rbE, if_pos h, if_neg (by omega), if_pos hc]
  exact ⟨h1, by simp [rbS, h1], by simp [rbK, h1]⟩
theorem rb_ok {l : List Int} (h : rdE l = 0) (hx : rdX l ≤ 65536) (hc : rdX l ≤ (l.length : Int) - rdK l) : rbE l = 0 ∧ rbS l = (l.drop (rdK l).toNat).take (rdX l).toNat ∧ rbK l = rdK l + rdX l := by
  have h1 : rbE l = 0 := by rw [rbE, if_pos h, if_neg (by omega), if_neg (by omega)]
  exact ⟨h1, by simp [rbS, h1], by simp [rbK, h1]⟩
/-- The encoding of a byte string. -/
def encB (s : List Int) : List Int := enc s.length ++ s
theorem rb_enc {s : List Int} (hs : s.length ≤ 65536) (more : List Int) : rbE (encB s ++ more) = 0 ∧ rbS (encB s ++ more) = s ∧ rbK (encB s ++ more) = (encB s).length := by
  obtain ⟨hx, hk, he⟩ := rd_enc (n := s.length) (by omega) (s ++ more)
  have e : encB s ++ more = enc s.length ++ (s ++ more) := by simp [encB]
  rw [e]
  obtain ⟨a, b, c⟩ := rb_ok (l := enc s.length ++ (s ++ more)) he (by omega) (by rw [hx, hk]; simp; omega)
  refine ⟨a, ?_, ?_⟩
  · rw [b, hk, hx]
    simp
  · rw [c, hk, hx]; simp [encB]
theorem rb_enc_big {s : List Int} (hs : 65536 < s.length) (hb : s.length < 18446744073709551616) : rbE (encB s) = 4 ∧ rbS (encB s) = [] ∧ rbK (encB s) = 0 := by
  obtain ⟨hx, hk, he⟩ := rd_enc (n := s.length) hb s
  exact rb_big he (by rw [show rdX (encB s) = (s.length : Int) from hx]; omega)
theorem rb_prefix {s : List Int} (hs : s.length ≤ 65536) {k : Nat} (hk : k < (encB s).length) : rbE ((encB s).take k) = 2 := by
  by_cases h : k < (enc s.length).length
  · have e : (encB s).take k = (enc s.length).take k := by
      rw [encB, List.take_append_of_le_length (by omega)]
    rw [e]
    obtain ⟨hx, hk', he⟩ := rd_cut (n := s.length) (by omega) h
    exact (rb_err he (by decide)).1
  · have e : (encB s).take k = enc s.length ++ s.take (k - (enc s.length).length) := by
      rw [encB, List.take_append, List.take_of_length_le (by omega)]
    rw [e]
    obtain ⟨hx, hk', he⟩ := rd_enc (n := s.length) (by omega) (s.take (k - (enc s.length).length))
    have hl : (encB s).length = (enc s.length).length + s.length := by simp [encB]
    refine (rb_cut he (by omega) ?_).1
    rw [hx, hk', List.length_append, List.length_take]
    omega

/-! Bits. -/
theorem and127_64 (x : Int) (h0 : 0 ≤ x) (h1 : x < 18446744073709551616) : bits .and .u64 x 127 = x % 128 := by
  rw [u64_and x 127 h0 h1 (by decide) (by decide)]
  rw [show ((127 : Int).toNat) = 2 ^ 7 - 1 by decide, Nat.and_two_pow_sub_one_eq_mod]
  omega
theorem and127_8 (x : Int) (h0 : 0 ≤ x) (h1 : x ≤ 255) : bits .and .u8 x 127 = x % 128 := by
  rw [u8_and x 127 h0 (by omega) (by decide) (by decide)]
  rw [show ((127 : Int).toNat) = 2 ^ 7 - 1 by decide, Nat.and_two_pow_sub_one_eq_mod]
  omega
theorem or128_8 (x : Int) (h0 : 0 ≤ x) (h1 : x < 128) : bits .or .u8 x 128 = x + 128 := by
  rw [u8_or x 128 h0 (by omega) (by decide) (by decide)]
  rw [show ((128 : Int).toNat) = 128 by decide, Nat.or_comm, nat_join 7 128 x.toNat (by decide) (by omega)]
  omega
theorem and128_8 (x : Int) (h0 : 0 ≤ x) (h1 : x ≤ 255) : bits .and .u8 x 128 = if x < 128 then 0 else 128 := by
  rw [u8_and x 128 h0 (by omega) (by decide) (by decide)]
  have e : ((x.toNat &&& (128 : Int).toNat : Nat) : Int) = if x.toNat < 128 then 0 else 128 := by
    have key : ∀ m : Fin 256, ((m.val &&& 128 : Nat) : Int) = if m.val < 128 then 0 else 128 := by decide +kernel
    exact key ⟨x.toNat, by omega⟩
  rw [e]
  by_cases h : x < 128
  · rw [if_pos h, if_pos (by omega)]
  · rw [if_neg h, if_neg (by omega)]
/-- The byte of a group that is not the last one. -/
theorem more_byte (y : Int) (h0 : 0 ≤ y) (h1 : y < 18446744073709551616) : bits .or .u8 (bits .and .u64 y 127 % 256) 128 = y % 128 + 128 := by
  rw [and127_64 y h0 h1, or128_8 _ (by omega) (by omega)]
  omega
/-- A further group, seven bits higher each. -/
theorem or_up (a b : Int) (i : Nat) (a0 : 0 ≤ a) (a1 : a < 128 ^ i) (b0 : 0 ≤ b) (hb : b * 128 ^ i < 18446744073709551616) (ha : a < 18446744073709551616) : bits .or .u64 a (b * 128 ^ i) = a + b * 128 ^ i := by
  have hp : (0 : Int) ≤ 128 ^ i := Int.le_of_lt (Int.pow_pos (by decide))
  have hm : 0 ≤ b * 128 ^ i := Int.mul_nonneg b0 hp
  rw [u64_or a _ a0 ha hm hb]
  have e7 : (128 : Nat) ^ i = 2 ^ (7 * i) := by rw [Nat.pow_mul]
  have eN : (b * 128 ^ i).toNat = b.toNat * 128 ^ i := by
    obtain ⟨m, rfl⟩ := Int.eq_ofNat_of_zero_le b0
    have : ((m : Int) * 128 ^ i) = ((m * 128 ^ i : Nat) : Int) := by simp
    rw [this]
    simp only [Int.toNat_natCast]
  have hlt : a.toNat < 2 ^ (7 * i) := by
    rw [← e7]
    have : (a.toNat : Int) < ((128 ^ i : Nat) : Int) := by rw [Int.toNat_of_nonneg a0]; simpa using a1
    omega
  have e1 : a.toNat ||| (b * 128 ^ i).toNat = (b * 128 ^ i).toNat + a.toNat := by
    rw [Nat.or_comm]
    exact nat_join (7 * i) _ _ (by rw [eN, e7, Nat.mul_mod_left]) hlt
  rw [e1]
  omega
/-- What a round of reading makes of the number so far. -/
theorem step_bd (y c : Int) (k : Nat) (y0 : 0 ≤ y) (y1 : y < 18446744073709551616) :
    0 ≤ bits .or .u64 y (IntKind.u64.wrap (IntKind.u64.wrap (bits .and .u8 c 127) * 2 ^ (7 * k))) ∧ bits .or .u64 y (IntKind.u64.wrap (IntKind.u64.wrap (bits .and .u8 c 127) * 2 ^ (7 * k))) < 18446744073709551616 := by
  generalize hz : IntKind.u64.wrap (IntKind.u64.wrap (bits .and .u8 c 127) * 2 ^ (7 * k)) = z
  have hz2 : 0 ≤ z ∧ z < 18446744073709551616 := by rw [← hz, IntKind.wrap_u64]; omega
  rw [u64_or y z y0 y1 hz2.1 hz2.2]
  have : y.toNat ||| z.toNat < 2 ^ 64 := Nat.or_lt_two_pow (by omega) (by omega)
  omega
theorem step_val {l : List Int} {k : Nat} {y c : Int} (hk : k < l.length) (hc : l.getD k 0 = c) (hy : y = val (l.take k)) (c0 : 0 ≤ c) (c1 : c ≤ 255) (h : k ≤ 8 ∨ (k = 9 ∧ c ≤ 1)) :
    bits .or .u64 y (IntKind.u64.wrap (IntKind.u64.wrap (bits .and .u8 c 127) * 2 ^ (7 * k))) = val (l.take (k + 1)) := by
  have e1 : l.take (k + 1) = l.take k ++ [c] := by
    rw [List.take_succ_eq_append_getElem hk]
    have : l[k] = c := by rw [← hc]; simp [List.getD, hk]
    rw [this]
  have hl : (l.take k).length = k := by rw [List.length_take]; omega
  have hlt := val_lt (l.take k)
  have hnn := val_nonneg (l.take k)
  rw [hl] at hlt
  rw [e1, val_snoc, hl, ← hy]
  rw [← hy] at hlt hnn
  have e7 : (2 : Int) ^ (7 * k) = 128 ^ k := by rw [Int.pow_mul]; rfl
  rw [and127_8 c c0 c1, IntKind.wrap_u64, IntKind.wrap_u64, e7, Int.emod_eq_of_lt (show 0 ≤ c % 128 by omega) (by omega)]
  have hp : (0 : Int) < 128 ^ k := Int.pow_pos (by decide)
  have h9 : (128 : Int) ^ k ≤ 9223372036854775808 := by
    have h1 : (128 : Nat) ^ k ≤ 128 ^ 9 := Nat.pow_le_pow_right (by omega) (by omega)
    have h2 : (128 : Int) ^ k ≤ 128 ^ 9 := by exact_mod_cast h1
    have h3 : (128 : Int) ^ 9 = 9223372036854775808 := by decide
    omega
  have hm : c % 128 * 128 ^ k < 18446744073709551616 := by
    rcases h with h | ⟨h, hc1⟩
    · have h1 : (128 : Nat) ^ k ≤ 128 ^ 8 := Nat.pow_le_pow_right (by omega) h
      have h2 : (128 : Int) ^ k ≤ 128 ^ 8 := by exact_mod_cast h1
      have h3 : (128 : Int) ^ 8 = 72057594037927936 := by decide
      have h4 : c % 128 * 128 ^ k ≤ 127 * 128 ^ k := Int.mul_le_mul_of_nonneg_right (by omega) (by omega)
      omega
    · have h4 : c % 128 * 128 ^ k ≤ 1 * 128 ^ k := Int.mul_le_mul_of_nonneg_right (by omega) (by omega)
      omega
  have hm0 : 0 ≤ c % 128 * 128 ^ k := Int.mul_nonneg (by omega) (by omega)
  rw [Int.emod_eq_of_lt hm0 hm]
  exact or_up y (c % 128) k hnn hlt (by omega) hm (by omega)
theorem val_drop_step {l : List Int} {j : Nat} (h : j < l.length) : val (l.drop j) = l.getD j 0 % 128 + 128 * val (l.drop (j + 1)) := by
  rw [List.drop_eq_getElem_cons h, val]
  simp [List.getD, h]
theorem val_drop_le : ∀ (l : List Int) (j : Nat), val (l.drop j) ≤ val l
  | l, 0 => by simp
  | [], j + 1 => by simp
  | c :: r, j + 1 => by
    have h1 := val_drop_le r j
    have h2 := val_nonneg r
    rw [List.drop_succ_cons, val]
    omega
end Go.Proofs.Ytlgoiccekgjhnaa
