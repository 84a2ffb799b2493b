/-
  Lists of bytes that are written over, numbers of bytes in ascending order of weight, and a block of memory that is a row of bytes: what it holds, what a store or a copy makes of it, how it reads as a slice. No conditions beyond those that each lemma states.
-/
import Derived.Test.YtfchccgajcjbbaaAlcF
namespace Go.Proofs.Ytfchccgajcjbbaa
open Go.ChangeShapes Go.WideShapes Go.ChangeAt Go.RowKit
set_option maxHeartbeats 2000000
set_option maxRecDepth 100000

/-- The bytes l written over bs from place o on. -/
def pt : List Int → Nat → List Int → List Int
  | bs, _, [] => bs
  | bs, o, b :: l => pt (bs.set o b) (o + 1) l
theorem pt_len : ∀ {l bs : List Int} {o : Nat}, (pt bs o l).length = bs.length
  | [], _, _ => rfl
  | b :: l, bs, o => by rw [pt, pt_len, List.length_set]
theorem pt_snoc : ∀ {l bs : List Int} {o : Nat} {b : Int}, pt bs o (l ++ [b]) = (pt bs o l).set (o + l.length) b
  | [], bs, o, b => by simp [pt]
  | x :: l, bs, o, b => by
    rw [List.cons_append, pt, pt_snoc, pt, List.length_cons, show o + 1 + l.length = o + (l.length + 1) by omega]
theorem pt_take {l bs : List Int} {o j : Nat} (h : j < l.length) : pt bs o (l.take (j + 1)) = (pt bs o (l.take j)).set (o + j) (l.getD j 0) := by
  have e : l.take (j + 1) = l.take j ++ [l.getD j 0] := by
    rw [List.take_succ_eq_append_getElem h]
    simp [List.getD, h]
  rw [e, pt_snoc, List.length_take, Nat.min_eq_left (by omega)]
theorem fit_set {bs : List Int} {o : Nat} {b : Int} (h : Fit .u8 bs) (hb : (Lit.int .u8 b).wf = true) : Fit .u8 (bs.set o b) := fun x hx => by
  rcases List.mem_or_eq_of_mem_set hx with h' | rfl
  · exact h x h'
  · exact hb
theorem pt_fit : ∀ {l bs : List Int} {o : Nat}, Fit .u8 bs → Fit .u8 l → Fit .u8 (pt bs o l)
  | [], _, _, h, _ => h
  | b :: l, bs, o, h, hl => by rw [pt]; exact pt_fit (fit_set h (hl b (by simp))) fun x hx => hl x (by simp [hx])
theorem set_getD {bs : List Int} {o i : Nat} {b : Int} : (bs.set o b).getD i 0 = if i = o ∧ i < bs.length then b else bs.getD i 0 := by
  simp only [List.getD, List.getElem?_set]
  by_cases h : o = i
  · subst h
    by_cases h2 : o < bs.length
    · simp [h2]
    · simp [h2]
  · have : ¬ i = o := fun e => h e.symm
    simp [h, this]
theorem pt_getD : ∀ {l bs : List Int} {o i : Nat}, (pt bs o l).getD i 0 = if o ≤ i ∧ i < o + l.length ∧ i < bs.length then l.getD (i - o) 0 else bs.getD i 0
  | [], bs, o, i => by
    rw [pt, if_neg (by simp; omega)]
  | b :: l, bs, o, i => by
    rw [pt, pt_getD, List.length_set, set_getD, List.length_cons]
    by_cases h1 : o + 1 ≤ i ∧ i < o + 1 + l.length ∧ i < bs.length
    · rw [if_pos h1, if_pos ⟨by omega, by omega, h1.2.2⟩, show i - o = (i - (o + 1)) + 1 by omega]
      simp
    · rw [if_neg h1]
      by_cases h2 : i = o ∧ i < bs.length
      · obtain ⟨rfl, h2⟩ := h2
        rw [if_pos ⟨rfl, h2⟩, if_pos ⟨by omega, by omega, h2⟩]
        simp
      · rw [if_neg h2, if_neg (by omega)]
theorem pt_nil {bs : List Int} {o : Nat} : pt bs o [] = bs := rfl

/-- The number in some bytes, the least significant one first. -/
def le : List Int → Int
  | [] => 0
  | b :: l => b + 256 * le l
theorem le_bd : ∀ {l : List Int}, Fit .u8 l → 0 ≤ le l ∧ le l < 256 ^ l.length
  | [], _ => by simp [le]
  | b :: l, h => by
    have h1 := byte_bd (h b (by simp))
    have h2 := le_bd (l := l) (fun x hx => h x (by simp [hx]))
    rw [le, List.length_cons, Int.pow_succ]
    omega
theorem le_snoc : ∀ {l : List Int} {b : Int}, le (l ++ [b]) = le l + b * 256 ^ l.length
  | [], b => by simp [le]
  | x :: l, b => by
    have e : 256 * (b * 256 ^ l.length) = b * (256 ^ l.length * 256) := by rw [Int.mul_left_comm, Int.mul_comm 256]
    rw [List.cons_append, le, le_snoc, le, List.length_cons, Int.pow_succ, Int.mul_add, e]
    omega
theorem le_take {l : List Int} {j : Nat} (h : j < l.length) : le (l.take (j + 1)) = le (l.take j) + l.getD j 0 * 256 ^ j := by
  have e : l.take (j + 1) = l.take j ++ [l.getD j 0] := by
    rw [List.take_succ_eq_append_getElem h]
    simp [List.getD, h]
  rw [e, le_snoc, List.length_take, Nat.min_eq_left (by omega)]
theorem le_drop {l : List Int} {j : Nat} (h : j < l.length) : le (l.drop j) = l.getD j 0 + 256 * le (l.drop (j + 1)) := by
  rw [List.drop_eq_getElem_cons h, le]
  simp [List.getD, h]
theorem pow256 (i : Nat) : (2 : Int) ^ (8 * i) = 256 ^ i := by rw [Int.pow_mul]; rfl
theorem pow256_le {i k : Nat} (h : i ≤ k) : (256 : Int) ^ i ≤ 256 ^ k := by
  have h1 : (256 : Nat) ^ i ≤ 256 ^ k := Nat.pow_le_pow_right (by omega) h
  exact_mod_cast h1
theorem pow256_pos (i : Nat) : (0 : Int) < 256 ^ i := Int.pow_pos (by decide)
/-- A further byte, eight bits higher each. -/
theorem or_byte (a b : Int) (i : Nat) (hi : i < 8) (a0 : 0 ≤ a) (a1 : a < 256 ^ i) (b0 : 0 ≤ b) (b1 : b ≤ 255) : bits .or .u64 a (IntKind.u64.wrap (b * 2 ^ (8 * i))) = a + b * 256 ^ i := by
  have hp := pow256_pos i
  have h7 : (256 : Int) ^ i ≤ 256 ^ 7 := pow256_le (by omega)
  have e7 : (256 : Int) ^ 7 = 72057594037927936 := by decide
  have hm : 0 ≤ b * 256 ^ i := Int.mul_nonneg b0 (Int.le_of_lt hp)
  have hm2 : b * 256 ^ i ≤ 255 * 256 ^ i := Int.mul_le_mul_of_nonneg_right b1 (Int.le_of_lt hp)
  have hb : b * 256 ^ i < 18446744073709551616 := by omega
  rw [pow256, IntKind.wrap_u64, Int.emod_eq_of_lt hm hb, u64_or a _ a0 (by omega) hm hb]
  have e8 : (256 : Nat) ^ i = 2 ^ (8 * i) := by rw [Nat.pow_mul]
  have eN : (b * 256 ^ i).toNat = b.toNat * 256 ^ i := by
    obtain ⟨m, rfl⟩ := Int.eq_ofNat_of_zero_le b0
    have : ((m : Int) * 256 ^ i) = ((m * 256 ^ i : Nat) : Int) := by simp
    rw [this]
    simp only [Int.toNat_natCast]
  have hlt : a.toNat < 2 ^ (8 * i) := by
    rw [← e8]
    have : (a.toNat : Int) < ((256 ^ i : Nat) : Int) := by rw [Int.toNat_of_nonneg a0]; simpa using a1
    omega
  have e1 : a.toNat ||| (b * 256 ^ i).toNat = (b * 256 ^ i).toNat + a.toNat := by
    rw [Nat.or_comm]
    exact nat_join (8 * i) _ _ (by rw [eN, e8, Nat.mul_mod_left]) hlt
  rw [e1]
  omega
/-- A number shifted up by a byte, and a byte below it. -/
theorem or_low (a b : Int) (a0 : 0 ≤ a) (a1 : a < 72057594037927936) (b0 : 0 ≤ b) (b1 : b ≤ 255) : bits .or .u64 (IntKind.u64.wrap (a * 256)) b = b + 256 * a := by
  rw [IntKind.wrap_u64, Int.emod_eq_of_lt (by omega) (by omega), u64_or _ b (by omega) (by omega) b0 (by omega)]
  have e1 : (a * 256).toNat ||| b.toNat = (a * 256).toNat + b.toNat := nat_join 8 _ _ (by omega) (by omega)
  rw [e1]
  omega

/-- The bytes of a number, the least significant one first. -/
def by8 (v : Int) : Nat → List Int
  | 0 => []
  | n + 1 => by8 v n ++ [v / 256 ^ n % 256]
theorem by8_len {v : Int} : ∀ {n : Nat}, (by8 v n).length = n
  | 0 => rfl
  | n + 1 => by rw [by8, List.length_append, by8_len]; rfl
theorem by8_fit {v : Int} : ∀ {n : Nat}, Fit .u8 (by8 v n)
  | 0 => fun x hx => by cases hx
  | n + 1 => fun x hx => by
    rw [by8, List.mem_append] at hx
    rcases hx with hx | hx
    · exact by8_fit x hx
    · simp only [List.mem_singleton] at hx
      subst hx
      have h1 := Int.emod_nonneg (v / 256 ^ n) (show (256 : Int) ≠ 0 by decide)
      have h2 := Int.emod_lt_of_pos (v / 256 ^ n) (show (0 : Int) < 256 by decide)
      generalize v / 256 ^ n % 256 = z at *
      simp only [Lit.wf, Bool.and_eq_true, decide_eq_true_eq]
      exact ⟨h1, by show z ≤ 255; omega⟩
theorem pt_by8 {bs : List Int} {o j : Nat} {v : Int} : pt bs o (by8 v (j + 1)) = (pt bs o (by8 v j)).set (o + j) (v / 256 ^ j % 256) := by
  rw [by8, pt_snoc, by8_len]
theorem le_by8 {v : Int} (h0 : 0 ≤ v) : ∀ {n : Nat}, le (by8 v n) = v % 256 ^ n
  | 0 => by simp [by8, le, Int.emod_one]
  | n + 1 => by
    rw [by8, le_snoc, by8_len, le_by8 h0]
    have hp := pow256_pos n
    rw [Int.pow_succ]
    have h1 := Int.emod_add_mul_ediv v (256 ^ n)
    have h2 := Int.emod_add_mul_ediv (v / 256 ^ n) 256
    have h3 : v / 256 ^ n / 256 = v / (256 ^ n * 256) := Int.ediv_ediv_of_nonneg (Int.le_of_lt hp)
    have h4 := Int.emod_add_mul_ediv v (256 ^ n * 256)
    rw [← h3] at h4
    generalize v / 256 ^ n / 256 = q at *
    generalize v / 256 ^ n % 256 = r at *
    generalize v / 256 ^ n = d at *
    rw [← h2] at h1
    have h5 : 256 ^ n * (r + 256 * q) = r * 256 ^ n + 256 ^ n * 256 * q := by
      rw [Int.mul_add, Int.mul_comm (256 ^ n) r, Int.mul_assoc]
    rw [h5] at h1
    omega
end Go.Proofs.Ytfchccgajcjbbaa
