/-
  Contracts of package layout as it landed: the small functions. Conditions: at most forty fields; those that each theorem states.
-/
import Derived.Test.YtgddlpabgeeflaaLaD
namespace Go.Proofs.Ytgddlpabgeeflaa
open Go.ChangeShapes Go.WideShapes Go.RowKit
set_option linter.unusedVariables false
set_option maxHeartbeats 8000000
set_option maxRecDepth 100000

/-- The alignment of a kind, 0 if unknown. -/
def alg (k : Int) : Int := if k = 1 then 1 else if k = 6 then 1 else if k = 2 then 2 else if k = 3 then 4 else if k = 4 then 8 else if k = 5 then 8 else 0
theorem alg_0 {k : Int} : alg k = 0 ↔ k < 1 ∨ 6 < k := by
  unfold alg
  repeat' split
  all_goals omega
theorem alg_aln {k c : Int} (h : 1 ≤ k ∧ k ≤ 6) : alg k = aln (k, c) := by
  unfold alg aln
  dsimp only
  repeat' split
  all_goals omega
theorem alg_wdt {k c : Int} (h : 1 ≤ k ∧ k ≤ 6) (h6 : k ≠ 6) : alg k = wdt (k, c) := by
  unfold alg wdt
  dsimp only
  repeat' split
  all_goals omega
/-- What a function says that leaves all as it is. -/
def Same (w : World) (v : Value) (e : Ending) (w' : World) : Prop := e = .returned v ∧ w' = w
theorem Calls.says {P : Program} {f : FuncId} {args : Array Value} {w : World} {v : Value} (h : Calls P f args w (Same w v)) : Calls P f args w (Says w v) :=
  h.mono fun _ _ ⟨he, hw⟩ => ⟨he, hw ▸ Below.refl _ _⟩

theorem alignment_any (k : Int) (w : World) : Calls Try.prog 36 #[.int .i64 k] w (Same w (.int .i64 (alg k))) := by
  by_cases h1 : k = 1
  · subst h1
    go_enter Try.func36, Try.ntmps36
    go_wp2
    go_ret
    exact ⟨rfl, rfl⟩
  by_cases h6 : k = 6
  · subst h6
    go_enter Try.func36, Try.ntmps36
    go_wp2
    go_ret
    exact ⟨rfl, rfl⟩
  by_cases h2 : k = 2
  · subst h2
    go_enter Try.func36, Try.ntmps36
    go_wp2
    go_ret
    exact ⟨rfl, rfl⟩
  by_cases h3 : k = 3
  · subst h3
    go_enter Try.func36, Try.ntmps36
    go_wp2
    go_ret
    exact ⟨rfl, rfl⟩
  by_cases h4 : k = 4
  · subst h4
    go_enter Try.func36, Try.ntmps36
    go_wp2
    go_ret
    exact ⟨rfl, rfl⟩
  by_cases h5 : k = 5
  · subst h5
    go_enter Try.func36, Try.ntmps36
    go_wp2
    go_ret
    exact ⟨rfl, rfl⟩
  have HW : Hid (alg k = 0) := Lib.hid (by unfold alg; simp [h1, h2, h3, h4, h5, h6])
  have d1 : (k == 1) = false := by simpa using h1
  have d2 : (k == 2) = false := by simpa using h2
  have d3 : (k == 3) = false := by simpa using h3
  have d4 : (k == 4) = false := by simpa using h4
  have d5 : (k == 5) = false := by simpa using h5
  have d6 : (k == 6) = false := by simpa using h6
  go_enter Try.func36, Try.ntmps36
  go_wp2
  go_ret
  exact ⟨by rw [HW.out]; rfl, rfl⟩
theorem roundUp_any (n k : Int) (w : World) (hn : 0 ≤ n ∧ n ≤ 10000000000) (hk : 1 ≤ k ∧ k ≤ 1000) :
    Calls Try.prog 39 #[.int .i64 n, .int .i64 k] w (Same w (.int .i64 (upk n k))) := by
  obtain ⟨n0, n1⟩ := hn
  obtain ⟨k0, k1⟩ := hk
  have h1 := upk_is (n := n) (k := k) (by omega)
  have HU : Hid (upk n k = (n + k - 1) / k * k) := Lib.hid rfl
  have htd : (n + k - 1).tdiv k = (n + k - 1) / k := Int.tdiv_eq_ediv_of_nonneg (by omega)
  have q0 : 0 ≤ (n + k - 1) / k := Int.ediv_nonneg (by omega) (by omega)
  have q1 : (n + k - 1) / k ≤ n + k - 1 := Int.ediv_le_self _ (by omega)
  have hz : ¬ k = 0 := by omega
  have hm0 : 0 ≤ (n + k - 1) / k * k := by rw [← HU.out]; omega
  have hm1 : (n + k - 1) / k * k < n + k := by rw [← HU.out]; omega
  generalize upk n k = u at *
  generalize hq : (n + k - 1) / k = q at *
  go_enter Try.func39, Try.ntmps39
  go_wp2
  go_ret
  exact ⟨by rw [HU.out]; rfl, rfl⟩
/-- A box with a field. -/
def FfB (w : World) (b : Nat) (u v : Int) : Prop := w.heap[b]? = some (.cells #[.int .i64 u, .int .i64 v] 45 (0, 0))
section
variable {w w' : World} {b : Nat} {u v : Int}
theorem FfB.new : FfB (w.alloc (.cells #[.int .i64 u, .int .i64 v] 45)) w.heap.size u v := heap_alloc_new w _
theorem FfB.lt (h : FfB w b u v) : b < w.heap.size := (Array.getElem?_eq_some_iff.1 h).1
theorem FfB.go (h : FfB w b u v) (hb : Below w.heap.size w w') : FfB w' b u v := (hb.block b h.lt).trans h
theorem FfB.cell0 (h : FfB w b u v) : w.cell? ⟨b, 0, none⟩ = some (.int .i64 u) := cell_of_row w b 0 _ _ _ h
theorem FfB.cell1 (h : FfB w b u v) : w.cell? ⟨b, 1, none⟩ = some (.int .i64 v) := cell_of_row w b 1 _ _ _ h
end
theorem width_any (u v : Int) (w : World) (h : 1 ≤ u ∧ u ≤ 6) :
    Calls Try.prog 41 #[.agg #[.int .i64 u, .int .i64 v]] w (Says w (.int .i64 (wdt (u, v)))) := by
  have hb0 : Below w.heap.size w (w.alloc (.cells #[.int .i64 u, .int .i64 v] 45)) := (Below.refl _ _).alloc (Nat.le_refl _) _
  have HB0 := Lib.hid hb0
  have hf := FfB.new (w := w) (u := u) (v := v)
  have c0 := hf.cell0
  have c1 := hf.cell1
  clear hb0 hf
  by_cases h6 : u = 6
  · subst h6
    go_enter Try.func41, Try.ntmps41
    go_wp2
    go_ret
    exact ⟨rfl, HB0.out⟩
  · have HW := Lib.hid (alg_wdt (c := v) h h6)
    have d6 : (u == 6) = false := by simpa using h6
    have HA := Lib.hid (fun W => alignment_any u W)
    generalize alg u = a at *
    generalize wdt (u, v) = wd at *
    go_enter Try.func41, Try.ntmps41
    go_wp2_with fail
    refine (HA.out _).mono ?_
    rintro e w2 ⟨rfl, rfl⟩
    go_wp2
    go_ret
    exact ⟨by rw [HW.out]; rfl, HB0.out⟩
theorem checkField_any (u v : Int) (w : World) :
    Calls Try.prog 30 #[.agg #[.int .i64 u, .int .i64 v]] w (Says w (.int .i64 (errF (u, v)))) := by
  have hb0 : Below w.heap.size w (w.alloc (.cells #[.int .i64 u, .int .i64 v] 45)) := (Below.refl _ _).alloc (Nat.le_refl _) _
  have HB0 := Lib.hid hb0
  have hf := FfB.new (w := w) (u := u) (v := v)
  have c0 := hf.cell0
  have c1 := hf.cell1
  clear hb0 hf
  have HA := Lib.hid (fun W => alignment_any u W)
  by_cases f1 : u < 1 ∨ 6 < u
  · have HE : Hid (errF (u, v) = 8) := Lib.hid (by unfold errF; dsimp only; rw [if_pos f1])
    rw [alg_0.2 f1] at HA
    have d6 : (u == 6) = false := by simp; omega
    go_enter Try.func30, Try.ntmps30
    go_wp2_with fail
    refine (HA.out _).mono ?_
    rintro e w2 ⟨rfl, rfl⟩
    go_wp2
    go_ret
    exact ⟨by rw [HE.out]; rfl, HB0.out⟩
  have ha : (alg u == 0) = false := by
    have := alg_0 (k := u)
    simp
    omega
  generalize alg u = a at *
  by_cases f3 : u = 6
  · subst f3
    by_cases f4 : v < 1
    · have d4 : decide (v < 1) = true := decide_eq_true f4
      have HE : Hid (errF (6, v) = 3) := Lib.hid (by unfold errF; dsimp only; rw [if_neg f1, if_pos (by omega)])
      go_enter Try.func30, Try.ntmps30
      go_wp2_with fail
      refine (HA.out _).mono ?_
      rintro e w2 ⟨rfl, rfl⟩
      go_wp2
      go_ret
      exact ⟨by rw [HE.out]; rfl, HB0.out⟩
    have d4 : decide (v < 1) = false := decide_eq_false f4
    by_cases f5 : 65536 < v
    · have d5 : decide (65536 < v) = true := decide_eq_true f5
      have HE : Hid (errF (6, v) = 4) := Lib.hid (by unfold errF; dsimp only; rw [if_neg f1, if_neg (by omega), if_pos f5])
      go_enter Try.func30, Try.ntmps30
      go_wp2_with fail
      refine (HA.out _).mono ?_
      rintro e w2 ⟨rfl, rfl⟩
      go_wp2
      go_ret
      exact ⟨by rw [HE.out]; rfl, HB0.out⟩
    have d5 : decide (65536 < v) = false := decide_eq_false f5
    have HE : Hid (errF (6, v) = 0) := Lib.hid (by unfold errF; dsimp only; rw [if_neg f1, if_neg (by omega), if_neg f5])
    go_enter Try.func30, Try.ntmps30
    go_wp2_with fail
    refine (HA.out _).mono ?_
    rintro e w2 ⟨rfl, rfl⟩
    go_wp2
    go_ret
    exact ⟨by rw [HE.out]; rfl, HB0.out⟩
  have d6 : (u == 6) = false := by simpa using f3
  by_cases f4 : v = 0
  · subst f4
    have HE : Hid (errF (u, 0) = 0) := Lib.hid (by unfold errF; dsimp only; rw [if_neg f1, if_neg (by omega), if_neg (by omega)])
    go_enter Try.func30, Try.ntmps30
    go_wp2_with fail
    refine (HA.out _).mono ?_
    rintro e w2 ⟨rfl, rfl⟩
    go_wp2
    go_ret
    exact ⟨by rw [HE.out]; rfl, HB0.out⟩
  · have d4 : (v != 0) = true := by simpa using f4
    have HE : Hid (errF (u, v) = 3) := Lib.hid (by unfold errF; dsimp only; rw [if_neg f1, if_pos (by omega)])
    go_enter Try.func30, Try.ntmps30
    go_wp2_with fail
    refine (HA.out _).mono ?_
    rintro e w2 ⟨rfl, rfl⟩
    go_wp2
    go_ret
    exact ⟨by rw [HE.out]; rfl, HB0.out⟩
/-- The error of the numbers of elements and fields; the number of fields or elements. -/
def ckc (n : Int) (m : Nat) : Int := if n < 0 then 3 else if 65536 < n then 4 else if (n = 0 ∧ m = 0) ∨ (0 < n ∧ m ≠ 1) then 3 else if 32 < m then 4 else 0
def ctc (n : Int) (m : Nat) : Int := if 0 < n then n else m
theorem count_any (n : Int) (A : Option Addr) (m c : Nat) (w : World) (hm : m ≤ c) (hc : c ≤ maxLen) :
    Calls Try.prog 38 #[.agg #[.int .i64 n, .slice A m c]] w (Says w (.int .i64 (ctc n m))) := by
  unfold maxLen at hc
  have hb0 : Below w.heap.size w (w.alloc (.cells #[.int .i64 n, .slice A m c] 35)) := (Below.refl _ _).alloc (Nat.le_refl _) _
  have HB0 := Lib.hid hb0
  clear hb0
  by_cases h : 0 < n
  · have d : decide (0 < n) = true := decide_eq_true h
    have HC : Hid (ctc n m = n) := Lib.hid (if_pos h)
    go_enter Try.func38, Try.ntmps38
    go_wp2
    go_ret
    exact ⟨by rw [HC.out]; rfl, HB0.out⟩
  · have d : decide (0 < n) = false := decide_eq_false h
    have HC : Hid (ctc n m = m) := Lib.hid (if_neg h)
    go_enter Try.func38, Try.ntmps38
    go_wp2
    go_ret
    exact ⟨by rw [HC.out]; rfl, HB0.out⟩
theorem checkCounts_any (n : Int) (A : Option Addr) (m c : Nat) (w : World) (hm : m ≤ c) (hc : c ≤ maxLen) :
    Calls Try.prog 29 #[.agg #[.int .i64 n, .slice A m c]] w (Says w (.int .i64 (ckc n m))) := by
  unfold maxLen at hc
  have hb0 : Below w.heap.size w (w.alloc (.cells #[.int .i64 n, .slice A m c] 35)) := (Below.refl _ _).alloc (Nat.le_refl _) _
  have HB0 := Lib.hid hb0
  clear hb0
  by_cases h1 : n < 0
  · have d1 : decide (n < 0) = true := decide_eq_true h1
    have HC : Hid (ckc n m = 3) := Lib.hid (if_pos h1)
    go_enter Try.func29, Try.ntmps29
    go_wp2
    go_ret
    exact ⟨by rw [HC.out]; rfl, HB0.out⟩
  have d1 : decide (n < 0) = false := decide_eq_false h1
  by_cases h2 : 65536 < n
  · have d2 : decide (65536 < n) = true := decide_eq_true h2
    have HC : Hid (ckc n m = 4) := Lib.hid (by unfold ckc; rw [if_neg h1, if_pos h2])
    go_enter Try.func29, Try.ntmps29
    go_wp2
    go_ret
    exact ⟨by rw [HC.out]; rfl, HB0.out⟩
  have d2 : decide (65536 < n) = false := decide_eq_false h2
  by_cases h3 : n = 0
  · subst h3
    by_cases h4 : m = 0
    · subst h4
      have HC : Hid (ckc 0 0 = 3) := Lib.hid rfl
      go_enter Try.func29, Try.ntmps29
      go_wp2
      go_ret
      exact ⟨by rw [HC.out]; rfl, HB0.out⟩
    have q4 : ((m : Int) == 0) = false := by simp; omega
    by_cases h5 : 32 < m
    · have q5 : (32 : Int) < (m : Int) := by omega
      have HC : Hid (ckc 0 m = 4) := Lib.hid (by unfold ckc; rw [if_neg h1, if_neg h2, if_neg (by omega), if_pos h5])
      go_enter Try.func29, Try.ntmps29
      go_wp2
      go_ret
      exact ⟨by rw [HC.out]; rfl, HB0.out⟩
    have q5 : ¬ (32 : Int) < (m : Int) := by omega
    have HC : Hid (ckc 0 m = 0) := Lib.hid (by unfold ckc; rw [if_neg h1, if_neg h2, if_neg (by omega), if_neg h5])
    go_enter Try.func29, Try.ntmps29
    go_wp2
    go_ret
    exact ⟨by rw [HC.out]; rfl, HB0.out⟩
  have q3 : (n == 0) = false := by simpa using h3
  have d3 : decide (0 < n) = true := decide_eq_true (by omega)
  by_cases h4 : m = 1
  · subst h4
    have HC : Hid (ckc n 1 = 0) := Lib.hid (by unfold ckc; rw [if_neg h1, if_neg h2, if_neg (by omega), if_neg (by omega)])
    go_enter Try.func29, Try.ntmps29
    go_wp2
    go_ret
    exact ⟨by rw [HC.out]; rfl, HB0.out⟩
  · have q4 : ((m : Int) != 1) = true := by simp; omega
    have HC : Hid (ckc n m = 3) := Lib.hid (by unfold ckc; rw [if_neg h1, if_neg h2, if_pos (by omega)])
    go_enter Try.func29, Try.ntmps29
    go_wp2
    go_ret
    exact ⟨by rw [HC.out]; rfl, HB0.out⟩
end Go.Proofs.Ytgddlpabgeeflaa
