/-
  The digest as plain mathematics: one byte, bytes, the eight bytes of a number, chains of records, and that two strings that differ in one byte have different digests. No conditions beyond those that each lemma states.
-/
import Derived.Laws.BitsAllLaws
import Derived.Test.YtlgoiccekgjhnaaRow
namespace Go.Proofs.Ytlgoiccekgjhnaa

def start : Int := 14695981039346656037
/-- The digest d continued by the byte c. -/
def stp (d c : Int) : Int := (bits .xor .u64 d c * 1099511628211) % 18446744073709551616
/-- The digest d continued by bytes. -/
def fnv (d : Int) (l : List Int) : Int := l.foldl stp d
theorem stp_bd (d c : Int) : 0 ≤ stp d c ∧ stp d c < 18446744073709551616 := by unfold stp; omega
theorem fnv_cons (d c : Int) (l : List Int) : fnv d (c :: l) = fnv (stp d c) l := rfl
theorem fnv_nil (d : Int) : fnv d [] = d := rfl
theorem fnv_app (d : Int) (l m : List Int) : fnv d (l ++ m) = fnv (fnv d l) m := by simp [fnv]
theorem fnv_bd {d : Int} (h0 : 0 ≤ d) (h1 : d < 18446744073709551616) (l : List Int) : 0 ≤ fnv d l ∧ fnv d l < 18446744073709551616 := by
  induction l generalizing d with
  | nil => exact ⟨h0, h1⟩
  | cons c l ih => rw [fnv_cons]; exact ih (stp_bd d c).1 (stp_bd d c).2
theorem start_bd : 0 ≤ start ∧ start < 18446744073709551616 := by unfold start; omega
theorem fnv_take {d : Int} {l : List Int} {k : Nat} (h : k < l.length) : fnv d (l.take (k + 1)) = stp (fnv d (l.take k)) (l.getD k 0) := by
  rw [List.take_succ_eq_append_getElem h, fnv_app]
  simp [fnv, List.getD, h]

/-- The k low bytes of a number, the least significant one first. -/
def low : Nat → Int → List Int
  | 0, _ => []
  | k + 1, x => x % 256 :: low k (x / 256)
theorem low_len (k : Nat) (x : Int) : (low k x).length = k := by
  induction k generalizing x with
  | zero => rfl
  | succ k ih => simp [low, ih]
theorem low_snoc (k : Nat) (x : Int) : low (k + 1) x = low k x ++ [x / 256 ^ k % 256] := by
  induction k generalizing x with
  | zero => simp [low]
  | succ k ih =>
    rw [low, ih, low, List.cons_append]
    congr 4
    rw [Int.ediv_ediv_of_nonneg (by omega), Int.pow_succ, Int.mul_comm]
theorem low_fit (k : Nat) (x : Int) : Fit .u8 (low k x) := by
  induction k generalizing x with
  | zero => intro y hy; cases hy
  | succ k ih =>
    intro y hy
    rcases List.mem_cons.1 hy with rfl | h
    · exact WalkArith.wf_u8 (by omega)
    · exact ih _ y h

/-- The digest of a record that follows one with the digest d. -/
def chn (d : Int) (l : List Int) : Int := fnv (fnv start (low 8 d)) l
theorem chn_bd (d : Int) (l : List Int) : 0 ≤ chn d l ∧ chn d l < 18446744073709551616 := by
  have h := fnv_bd start_bd.1 start_bd.2 (low 8 d)
  exact fnv_bd h.1 h.2 l
theorem chn_eq (d : Int) (l : List Int) : fnv start (low 8 d ++ l) = chn d l := fnv_app _ _ _
/-- The digests of records from the digest d on. -/
def dig : Int → List (List Int) → List Int
  | _, [] => []
  | d, l :: r => chn d l :: dig (chn d l) r
/-- The digest behind them. -/
def lst : Int → List (List Int) → Int
  | d, [] => d
  | d, l :: r => lst (chn d l) r
theorem dig_len (d : Int) (r : List (List Int)) : (dig d r).length = r.length := by
  induction r generalizing d with
  | nil => rfl
  | cons l r ih => simp [dig, ih]
theorem dig_app (d : Int) (r s : List (List Int)) : dig d (r ++ s) = dig d r ++ dig (lst d r) s := by
  induction r generalizing d with
  | nil => rfl
  | cons l r ih => simp [dig, lst, ih]
theorem lst_app (d : Int) (r s : List (List Int)) : lst d (r ++ s) = lst (lst d r) s := by
  induction r generalizing d with
  | nil => rfl
  | cons l r ih => simp [lst, ih]
theorem lst_bd {d : Int} (h0 : 0 ≤ d) (h1 : d < 18446744073709551616) (r : List (List Int)) : 0 ≤ lst d r ∧ lst d r < 18446744073709551616 := by
  induction r generalizing d with
  | nil => exact ⟨h0, h1⟩
  | cons l r ih => exact ih (chn_bd d l).1 (chn_bd d l).2
theorem dig_take (d : Int) (r : List (List Int)) (k : Nat) : (dig d r).take k = dig d (r.take k) := by
  induction r generalizing d k with
  | nil => simp [dig]
  | cons l r ih =>
    cases k with
    | zero => simp [dig]
    | succ k => simp [dig, ih]
theorem u64_wf {x : Int} (h0 : 0 ≤ x) (h1 : x < 18446744073709551616) : (Lit.int .u64 x).wf = true := by
  exact WalkArith.wf_u64 (by omega)
theorem dig_fit (d : Int) (r : List (List Int)) : Fit .u64 (dig d r) := by
  induction r generalizing d with
  | nil => intro y hy; cases hy
  | cons l r ih =>
    intro y hy
    rcases List.mem_cons.1 hy with rfl | h
    · exact u64_wf (chn_bd d l).1 (chn_bd d l).2
    · exact ih _ y h
theorem dig_last (d : Int) (r : List (List Int)) (h : r ≠ []) : (dig d r).getD (r.length - 1) 0 = lst d r := by
  induction r generalizing d with
  | nil => exact absurd rfl h
  | cons l r ih =>
    cases r with
    | nil => simp [dig, lst]
    | cons l' r =>
      have := ih (chn d l) (by simp)
      simpa [dig, lst] using this

/-- The place of the first digest that differs, or -1, and the error. -/
def ver : Nat → List Int → List Int → Int × Int
  | k, a :: l, b :: m => if a = b then ver (k + 1) l m else ((k : Int), 21)
  | _, _, _ => (-1, 0)
theorem ver_same (k : Nat) (l : List Int) : ver k l l = (-1, 0) := by
  induction l generalizing k with
  | nil => rfl
  | cons a l ih => simp [ver, ih]
def verR (l m : List Int) : Int × Int := if l.length = m.length then ver 0 l m else (-1, 1)
theorem ver_drop {l m : List Int} {k : Nat} (h1 : k < l.length) (h2 : k < m.length) : ver k (l.drop k) (m.drop k) = if l.getD k 0 = m.getD k 0 then ver (k + 1) (l.drop (k + 1)) (m.drop (k + 1)) else ((k : Int), 21) := by
  rw [List.drop_eq_getElem_cons h1, List.drop_eq_getElem_cons h2]
  simp [ver, List.getD, h1, h2]
theorem ver_end {l m : List Int} {k : Nat} (h1 : l.length ≤ k) : ver k (l.drop k) (m.drop k) = (-1, 0) := by
  rw [List.drop_of_length_le h1]; rfl
theorem ver_bd (k : Nat) (l m : List Int) : (ver k l m).1 = -1 ∧ (ver k l m).2 = 0 ∨ ∃ j : Nat, (ver k l m).1 = j ∧ (ver k l m).2 = 21 := by
  induction l generalizing k m with
  | nil => left; simp [ver]
  | cons a l ih =>
    cases m with
    | nil => left; simp [ver]
    | cons b m =>
      simp only [ver]
      split
      · exact ih _ _
      · exact .inr ⟨k, rfl, rfl⟩

theorem xor_inj_left {a b c : Int} (a0 : 0 ≤ a) (a1 : a < 18446744073709551616) (b0 : 0 ≤ b) (b1 : b < 18446744073709551616) (c0 : 0 ≤ c) (c1 : c < 18446744073709551616)
    (h : bits .xor .u64 a c = bits .xor .u64 b c) : a = b := by
  rw [u64_xor a c a0 a1 c0 c1, u64_xor b c b0 b1 c0 c1] at h
  have h2 : a.toNat ^^^ c.toNat = b.toNat ^^^ c.toNat := by omega
  have h3 : a.toNat = b.toNat := by
    have := congrArg (· ^^^ c.toNat) h2
    simpa [Nat.xor_assoc] using this
  omega
theorem xor_inj_right {a b c : Int} (a0 : 0 ≤ a) (a1 : a < 18446744073709551616) (b0 : 0 ≤ b) (b1 : b < 18446744073709551616) (c0 : 0 ≤ c) (c1 : c < 18446744073709551616)
    (h : bits .xor .u64 c a = bits .xor .u64 c b) : a = b := by
  rw [u64_xor c a c0 c1 a0 a1, u64_xor c b c0 c1 b0 b1] at h
  have h2 : c.toNat ^^^ a.toNat = c.toNat ^^^ b.toNat := by omega
  have h3 : a.toNat = b.toNat := by
    have := congrArg (c.toNat ^^^ ·) h2
    simpa [← Nat.xor_assoc] using this
  omega
theorem xor_bd {a b : Int} (a0 : 0 ≤ a) (a1 : a < 18446744073709551616) (b0 : 0 ≤ b) (b1 : b < 18446744073709551616) : 0 ≤ bits .xor .u64 a b ∧ bits .xor .u64 a b < 18446744073709551616 := by
  rw [u64_xor a b a0 a1 b0 b1]
  have : a.toNat ^^^ b.toNat < 2 ^ 64 := Nat.xor_lt_two_pow (by omega) (by omega)
  omega
theorem mul_inj {x y : Int} (x0 : 0 ≤ x) (x1 : x < 18446744073709551616) (y0 : 0 ≤ y) (y1 : y < 18446744073709551616) (h : (x * 1099511628211) % 18446744073709551616 = (y * 1099511628211) % 18446744073709551616) : x = y := by
  have h1 : (x * 1099511628211 * 14886173955864302971) % 18446744073709551616 = (y * 1099511628211 * 14886173955864302971) % 18446744073709551616 := by
    rw [Int.mul_emod, h, ← Int.mul_emod]
  have e : ∀ z : Int, z * 1099511628211 * 14886173955864302971 = z + z * 887285111055 * 18446744073709551616 := fun z => by
    rw [Int.mul_assoc, Int.mul_assoc, show (1099511628211 * 14886173955864302971 : Int) = 1 + 887285111055 * 18446744073709551616 by decide, Int.mul_add, Int.mul_one]
  rw [e, e, Int.add_mul_emod_self_right, Int.add_mul_emod_self_right, Int.emod_eq_of_lt x0 x1, Int.emod_eq_of_lt y0 y1] at h1
  exact h1
theorem stp_inj {a b c : Int} (a0 : 0 ≤ a) (a1 : a < 18446744073709551616) (b0 : 0 ≤ b) (b1 : b < 18446744073709551616) (c0 : 0 ≤ c) (c1 : c ≤ 255) (h : stp a c = stp b c) : a = b := by
  have e1 := xor_bd a0 a1 c0 (by omega : c < 18446744073709551616)
  have e2 := xor_bd b0 b1 c0 (by omega : c < 18446744073709551616)
  exact xor_inj_left a0 a1 b0 b1 c0 (by omega) (mul_inj e1.1 e1.2 e2.1 e2.2 h)
theorem stp_byte {a b d : Int} (a0 : 0 ≤ a) (a1 : a ≤ 255) (b0 : 0 ≤ b) (b1 : b ≤ 255) (d0 : 0 ≤ d) (d1 : d < 18446744073709551616) (h : stp d a = stp d b) : a = b := by
  have e1 := xor_bd d0 d1 a0 (by omega : a < 18446744073709551616)
  have e2 := xor_bd d0 d1 b0 (by omega : b < 18446744073709551616)
  exact xor_inj_right a0 (by omega) b0 (by omega) d0 d1 (mul_inj e1.1 e1.2 e2.1 e2.2 h)
theorem fnv_inj {l : List Int} (hl : Fit .u8 l) {a b : Int} (a0 : 0 ≤ a) (a1 : a < 18446744073709551616) (b0 : 0 ≤ b) (b1 : b < 18446744073709551616) (h : fnv a l = fnv b l) : a = b := by
  induction l generalizing a b with
  | nil => exact h
  | cons c l ih =>
    have hc := byte_bd (hl c (by simp))
    have := ih (fun x hx => hl x (by simp [hx])) (stp_bd a c).1 (stp_bd a c).2 (stp_bd b c).1 (stp_bd b c).2 h
    exact stp_inj a0 a1 b0 b1 hc.1 hc.2 this
theorem fnv_set {l : List Int} (hl : Fit .u8 l) {k : Nat} (hk : k < l.length) {x d : Int} (x0 : 0 ≤ x) (x1 : x ≤ 255) (hx : l.getD k 0 ≠ x) (d0 : 0 ≤ d) (d1 : d < 18446744073709551616) : fnv d l ≠ fnv d (l.set k x) := by
  induction l generalizing d k with
  | nil => simp at hk
  | cons c l ih =>
    have hc := byte_bd (hl c (by simp))
    have hl' : Fit .u8 l := fun x hx => hl x (by simp [hx])
    cases k with
    | zero =>
      intro h
      have := fnv_inj hl' (stp_bd d c).1 (stp_bd d c).2 (stp_bd d x).1 (stp_bd d x).2 h
      exact hx (by simpa using stp_byte hc.1 hc.2 x0 x1 d0 d1 this)
    | succ k => exact ih hl' (by simpa using hk) (by simpa using hx) (stp_bd d c).1 (stp_bd d c).2
theorem bx_ne {a b : Int} (a0 : 0 ≤ a) (a1 : a ≤ 255) (b0 : 0 < b) (b1 : b ≤ 255) : a ≠ bits .xor .u8 a b := by
  rw [u8_xor a b a0 (by omega) (by omega) (by omega)]
  intro h
  have h2 : a.toNat = a.toNat ^^^ b.toNat := by omega
  have h3 := congrArg (a.toNat ^^^ ·) h2
  simp [← Nat.xor_assoc] at h3
  omega
theorem bx_bd {a b : Int} (a0 : 0 ≤ a) (a1 : a ≤ 255) (b0 : 0 ≤ b) (b1 : b ≤ 255) : 0 ≤ bits .xor .u8 a b ∧ bits .xor .u8 a b ≤ 255 := by
  rw [u8_xor a b a0 (by omega) b0 (by omega)]
  have : a.toNat ^^^ b.toNat < 2 ^ 8 := Nat.xor_lt_two_pow (by omega) (by omega)
  omega
theorem awake_num : fnv start [97] = 12638187200555641996 := by decide
end Go.Proofs.Ytlgoiccekgjhnaa
