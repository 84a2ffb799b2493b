/-
  Pure: the sizes and their classes, the least size that is large enough. No conditions.
-/
import Derived.Test.YtfchccgajcjbbaaRow
namespace Go.Proofs.Ytfchccgajcjbbaa
set_option maxHeartbeats 2000000
set_option maxRecDepth 100000

/-- The size behind a size. -/
def nxt (s : Int) : Int := if s < 128 then s + 16 else if s < 2048 then 2 * s else s + 2048
/-- The size of class k (beyond the last class: what would follow). -/
def sz : Nat → Int
  | 0 => 16
  | k + 1 => nxt (sz k)
theorem sz_succ {k : Nat} : sz (k + 1) = nxt (sz k) := rfl
theorem nxt_lt {s : Int} (_h : 0 < s) : s < nxt s := by
  unfold nxt
  split
  · omega
  · split <;> omega
theorem sz_pos {k : Nat} : 0 < sz k := by
  induction k with
  | zero => decide
  | succ k ih => have := nxt_lt ih; rw [sz_succ]; omega
theorem sz_step {k : Nat} : sz k < sz (k + 1) := nxt_lt sz_pos
theorem sz_lt {j k : Nat} (h : j < k) : sz j < sz k := by
  induction k with
  | zero => omega
  | succ k ih =>
    have := sz_step (k := k)
    by_cases hj : j = k
    · subst hj; exact this
    · have := ih (by omega); omega
theorem sz_le {j k : Nat} (h : j ≤ k) : sz j ≤ sz k := by
  rcases Nat.lt_or_ge j k with h1 | h1
  · have := sz_lt h1; omega
  · obtain rfl : j = k := by omega
    exact Int.le_refl _
theorem sz_last : sz 42 = 65536 := by decide
theorem sz_beyond : sz 43 = 67584 := by decide
theorem sz_in {k : Nat} (h : k < 43) : sz k ≤ 65536 := by have := sz_le (j := k) (k := 42) (by omega); rw [sz_last] at this; exact this
theorem sz_out {k : Nat} (h : sz k ≤ 65536) : k < 43 := by
  rcases Nat.lt_or_ge k 43 with h1 | h1
  · exact h1
  · have := sz_le h1; rw [sz_beyond] at this; omega
theorem sz_min {k : Nat} : 16 ≤ sz k := sz_le (Nat.zero_le k)

/-- All classes with their sizes. -/
def szq (k : Nat) : List (Int × Int) := (List.range k).map fun (i : Nat) => ((i : Int), sz i)
theorem szs_succ {k : Nat} : szq (k + 1) = szq k ++ [((k : Int), sz k)] := by simp [szq, List.range_succ]
theorem szs_len {k : Nat} : (szq k).length = k := by simp [szq]
theorem szs_prefix {k m : Nat} (h : k ≤ m) : szq k <+: szq m := by
  refine ⟨((List.range m).drop k).map fun (i : Nat) => ((i : Int), sz i), ?_⟩
  unfold szq
  rw [← List.map_append]
  congr 1
  have h1 : (List.range m).take k = List.range k := by rw [List.take_range, Nat.min_eq_left h]
  rw [← h1, List.take_append_drop]
theorem szs_of_prefix {pre : List (Int × Int)} {m : Nat} (h : pre <+: szq m) : pre = szq pre.length ∧ pre.length ≤ m := by
  have h1 := h.length_le
  rw [szs_len] at h1
  refine ⟨?_, h1⟩
  have h2 := (List.prefix_iff_eq_take.1 h)
  have h3 := List.prefix_iff_eq_take.1 (szs_prefix h1)
  rw [szs_len] at h3
  rw [h2.trans h3.symm]
  simp [szs_len]
/-- All sizes. -/
def zl (k : Nat) : List Int := (List.range k).map sz
theorem zl_succ {k : Nat} : zl (k + 1) = zl k ++ [sz k] := by simp [zl, List.range_succ]
theorem zl_len {k : Nat} : (zl k).length = k := by simp [zl]
theorem zl_at {k j : Nat} (h : j < k) : (zl k).getD j 0 = sz j := by simp [zl, List.getD, h]

/-- k is the class of the least size that is at least n. -/
def IsCls (n : Int) (k : Nat) : Prop := n ≤ sz k ∧ ∀ j, j < k → sz j < n
theorem isCls_one {n : Int} {j k : Nat} (h : IsCls n j) (h' : IsCls n k) : j = k := by
  rcases Nat.lt_trichotomy j k with h1 | h1 | h1
  · have := h'.2 j h1; have := h.1; omega
  · exact h1
  · have := h.2 k h1; have := h'.1; omega
theorem isCls_there {n : Int} : ∀ {m : Nat}, n ≤ sz m → ∃ k, k ≤ m ∧ IsCls n k
  | 0, h => ⟨0, Nat.le_refl _, h, fun j hj => by omega⟩
  | m + 1, h => by
    by_cases hm : n ≤ sz m
    · obtain ⟨k, hk, h1⟩ := isCls_there hm
      exact ⟨k, by omega, h1⟩
    · exact ⟨m + 1, Nat.le_refl _, h, fun j hj => by
        have := sz_le (j := j) (k := m) (by omega)
        omega⟩
theorem isCls_big (n : Int) : ∃ k, (n ≤ 65536 → k < 43 ∧ IsCls n k) := by
  by_cases h : n ≤ 65536
  · obtain ⟨k, hk, h1⟩ := isCls_there (n := n) (m := 42) (by rw [sz_last]; exact h)
    exact ⟨k, fun _ => ⟨by omega, h1⟩⟩
  · exact ⟨0, fun h' => absurd h' h⟩
noncomputable def cls (n : Int) : Nat := Classical.choose (isCls_big n)
theorem cls_in {n : Int} (h : n ≤ 65536) : cls n < 43 := (Classical.choose_spec (isCls_big n) h).1
theorem cls_is {n : Int} (h : n ≤ 65536) : IsCls n (cls n) := (Classical.choose_spec (isCls_big n) h).2
theorem cls_eq {n : Int} (h : n ≤ 65536) {k : Nat} (hk : IsCls n k) : k = cls n := isCls_one hk (cls_is h)
theorem cls_mono {n m : Int} (h : n ≤ m) (hm : m ≤ 65536) : cls n ≤ cls m := by
  rcases Nat.lt_or_ge (cls m) (cls n) with h1 | h1
  · have := (cls_is (n := n) (by omega)).2 _ h1
    have := (cls_is hm).1
    omega
  · exact h1
theorem cls_sz {k : Nat} (h : k < 43) : cls (sz k) = k := (cls_eq (sz_in h) ⟨Int.le_refl _, fun _ hj => sz_lt hj⟩).symm

/-- What Class, Round and their errors are. -/
noncomputable def clR (n : Int) : Int := if n < 1 then 0 else if 65536 < n then 0 else (cls n : Int)
noncomputable def szR (n : Int) : Int := if n < 1 then 0 else if 65536 < n then 0 else sz (cls n)
def erR (n : Int) : Int := if n < 1 then 1 else if 65536 < n then 4 else 0
theorem small_R {n : Int} (h : n < 1) : clR n = 0 ∧ szR n = 0 ∧ erR n = 1 := by simp [clR, szR, erR, h]
theorem big_R {n : Int} (h : 65536 < n) : clR n = 0 ∧ szR n = 0 ∧ erR n = 4 := by
  have h1 : ¬ n < 1 := by omega
  simp [clR, szR, erR, h, h1]
theorem mid_R {n : Int} (h1 : 1 ≤ n) (h2 : n ≤ 65536) : clR n = cls n ∧ szR n = sz (cls n) ∧ erR n = 0 := by
  have h3 : ¬ n < 1 := by omega
  have h4 : ¬ 65536 < n := by omega
  simp [clR, szR, erR, h3, h4]
theorem szR_is {n : Int} {k : Nat} (h1 : 1 ≤ n) (h2 : n ≤ 65536) (hk : IsCls n k) : szR n = sz k := by
  rw [(mid_R h1 h2).2.1, ← cls_eq h2 hk]
theorem szR_17 : szR 17 = 32 := szR_is (k := 1) (by decide) (by decide) ⟨by decide, by decide⟩
theorem szR_2049 : szR 2049 = 4096 := szR_is (k := 12) (by decide) (by decide) ⟨by decide, by decide⟩
theorem clR_bd (n : Int) : 0 ≤ clR n ∧ clR n < 43 := by
  unfold clR
  split
  · omega
  · split
    · omega
    · have := cls_in (n := n) (by omega); omega
theorem szR_bd (n : Int) : 0 ≤ szR n ∧ szR n ≤ 65536 := by
  unfold szR
  split
  · omega
  · split
    · omega
    · have := sz_in (cls_in (n := n) (by omega)); have := sz_pos (k := cls n); omega
theorem erR_bd (n : Int) : 0 ≤ erR n ∧ erR n ≤ 4 := by
  unfold erR
  split
  · omega
  · split <;> omega
theorem sz_low : ∀ k, k < 8 → sz k = 16 * ((k : Int) + 1) := by decide
theorem sz_mid : ∀ k, k < 12 → 8 ≤ k → sz k ≤ 2048 ∧ sz (k + 1) = 2 * sz k := by decide
theorem sz_hi : ∀ k, k < 43 → 12 ≤ k → sz k ≤ 65536 ∧ sz (k + 1) = sz k + 2048 := by decide
/-- The last of what came. -/
def lsz (pre : List (Int × Int)) : Int × Int := pre.getLast?.getD (0, 0)
theorem lst_snoc {pre : List (Int × Int)} {x : Int × Int} : lsz (pre ++ [x]) = x := by simp [lsz]
theorem lst_szs {k : Nat} : lsz (szq (k + 1)) = ((k : Int), sz k) := by rw [szs_succ, lst_snoc]
theorem szs_drop {k : Nat} : (szq (k + 1)).dropLast = szq k := by rw [szs_succ]; simp
theorem szs_mem {k j : Nat} (h : j < k) : ((j : Int), sz j) ∈ szq k := by
  simp only [szq, List.mem_map, List.mem_range]
  exact ⟨j, h, rfl⟩
/-- All sizes that came are too small. -/
def Und (n : Int) (pre : List (Int × Int)) : Prop := ∀ y ∈ pre, y.2 < n
theorem und_nil {n : Int} : Und n [] := fun y hy => by cases hy
theorem und_snoc {n : Int} {pre : List (Int × Int)} {x : Int × Int} (h : Und n pre) (hx : x.2 < n) : Und n (pre ++ [x]) := fun y hy => by
  rcases List.mem_append.1 hy with h1 | h1
  · exact h y h1
  · simp only [List.mem_singleton] at h1
    subst h1
    exact hx
/-- Where the search stops, it has found the class. -/
theorem stop_cls {n : Int} (h1 : 1 ≤ n) {pre : List (Int × Int)} (hp : pre <+: szq 43) (hl : n ≤ (lsz pre).2) (hd : Und n pre.dropLast) :
    (lsz pre).1 = clR n ∧ (lsz pre).2 = szR n ∧ 0 = erR n := by
  obtain ⟨e, hm⟩ := szs_of_prefix hp
  generalize pre.length = m at e hm
  subst e
  cases m with
  | zero => simp [szq, lsz] at hl; omega
  | succ k =>
    rw [lst_szs] at hl ⊢
    rw [szs_drop] at hd
    have hb : n ≤ 65536 := Int.le_trans hl (sz_in (by omega))
    have hc : IsCls n k := ⟨hl, fun j hj => hd _ (szs_mem hj)⟩
    obtain ⟨e1, e2, e3⟩ := mid_R h1 hb
    rw [e1, e2, e3, ← cls_eq hb hc]
    exact ⟨rfl, rfl, rfl⟩
theorem done_big {n : Int} (h : Und n (szq 43)) : 65536 < n := by
  have := h _ (szs_mem (k := 43) (j := 42) (by omega))
  rw [sz_last] at this
  exact this
end Go.Proofs.Ytfchccgajcjbbaa
