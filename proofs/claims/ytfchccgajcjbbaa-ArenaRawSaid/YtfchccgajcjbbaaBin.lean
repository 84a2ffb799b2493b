/-
  Contracts of the comparison of offsets and of slices.BinarySearchFunc over extents in ascending order: the first place whose offset is not less, and whether it is equal. Conditions: the list has at most a million extents.
-/
import Derived.Test.YtfchccgajcjbbaaVecD
import Derived.Test.YtfchccgajcjbbaaPlc
namespace Go.Proofs.Ytfchccgajcjbbaa
open Go.ChangeShapes Go.WideShapes Go.ChangeAt Go.RowKit
set_option maxHeartbeats 4000000
set_option maxRecDepth 100000

/-- The three-way comparison. -/
def cmpI (x y : Int) : Int := if x < y then -1 else if y < x then 1 else 0
theorem nan_any (x : Int) (w : World) : Calls Try.prog 85 #[.int .i64 x] w fun e w' => e = .returned (.bool false) ∧ w = w' := by
  go_enter Try.func85, Try.ntmps85
  go_wp2
  go_ret
  exact ⟨by simp, rfl⟩
theorem compare_any (x y : Int) (w : World) : Calls Try.prog 74 #[.int .i64 x, .int .i64 y] w fun e w' => e = .returned (.int .i64 (cmpI x y)) ∧ w = w' := by
  have H1 := Lib.hid (nan_any x w)
  have H2 := Lib.hid (nan_any y w)
  have HC : Hid ((x < y → cmpI x y = -1) ∧ (¬ x < y → y < x → cmpI x y = 1) ∧ (¬ x < y → ¬ y < x → cmpI x y = 0)) := Lib.hid ⟨fun h => by simp [cmpI, h], fun h h' => by simp [cmpI, h, h'], fun h h' => by simp [cmpI, h, h']⟩
  go_enter Try.func74, Try.ntmps74
  go_wp2_with fail
  refine H1.out.mono ?_
  rintro e w1 ⟨rfl, rfl⟩
  go_wp2_with fail
  refine H2.out.mono ?_
  rintro e w1 ⟨rfl, rfl⟩
  clear H1 H2
  by_cases h1 : x < y
  · go_wp2
    go_ret
    exact ⟨by rw [HC.out.1 h1]; rfl, rfl⟩
  · by_cases h2 : y < x
    · go_wp2
      go_ret
      exact ⟨by rw [HC.out.2.1 h1 h2]; rfl, rfl⟩
    · go_wp2
      go_ret
      exact ⟨by rw [HC.out.2.2 h1 h2]; rfl, rfl⟩
theorem cmpOff_any (x y a b : Int) (w : World) : Calls Try.prog 73 #[.agg #[.int .i64 x, .int .i64 y], .agg #[.int .i64 a, .int .i64 b]] w fun e w' => e = .returned (.int .i64 (cmpI x a)) ∧ Below w.heap.size w w' := by
  have H := Lib.hid (fun W => compare_any x a W)
  generalize cmpI x a = r at *
  go_enter Try.func73, Try.ntmps73
  go_wp2_with fail
  refine (H.out _).mono ?_
  rintro e w1 ⟨rfl, rfl⟩
  clear H
  go_wp2
  go_ret
  exact ⟨rfl, ((Below.refl _ _).alloc (Nat.le_refl _) _).alloc (by simp) _⟩

/-- What the search says. -/
def FoundL (w : World) (l : List (Int × Int)) (off : Int) (e : Ending) (w' : World) : Prop := ∃ (i : Nat) (f : Bool), e = .returned (.tuple #[.int .i64 i, .bool f]) ∧ Lb l off i ∧ (f = true ↔ ∃ z, l[i]? = some z ∧ z.1 = off) ∧ Below w.heap.size w w'
theorem bsearch_any (A : Option Addr) (n c : Nat) (l F : List (Int × Int)) (size x y : Int) (w : World) (h : Exs w w.heap.size A n c l) (hn : n ≤ 1000000) (hv : Gd size F l) :
    Calls Try.prog 72 #[.slice A n c, .agg #[.int .i64 x, .int .i64 y], .func (.func 73) #[] #[]] w (FoundL w l x) := by
  have HB := Lib.hid h
  have HV := Lib.hid hv
  have hcap := h.cap
  have hsm := h.small
  unfold maxLen at hsm
  have HBX := Lib.hid (Box.new (w := w) (x := x) (y := y))
  have HW := Lib.hid ((Below.refl w.heap.size w).alloc (Nat.le_refl _) (.cells #[.int .i64 x, .int .i64 y] 31))
  clear h hv
  go_enter Try.func72, Try.ntmps72
  go_wp2
  generalize hW1 : w.alloc (.cells #[.int .i64 x, .int .i64 y] 31) = w1 at *
  clear hW1
  go_loopw [9, 10] (fun iv jv wr => ∃ (i j : Nat), i ≤ j ∧ j ≤ n ∧ iv = .int .i64 i ∧ jv = .int .i64 j ∧ Hid ((∀ k z, k < i → l[k]? = some z → z.1 < x) ∧ (∀ k z, j ≤ k → l[k]? = some z → x ≤ z.1) ∧ Below w1.heap.size w1 wr)) (fun iv jv _ => (intOf jv).toNat - (intOf iv).toNat)
  case atStart => exact ⟨0, n, by omega, by omega, rfl, rfl, Lib.hid ⟨fun k x hk => by omega, fun k x hk hx => by have := (List.getElem?_eq_some_iff.1 hx).1; have := HB.out.len; omega, Below.refl _ _⟩⟩
  case round =>
    obtain ⟨i, j, hij, hjn, rfl, rfl, hh⟩ := hrel
    have d0 : ∀ m : Later wr, m.val.cell? ⟨w.heap.size, 0, none⟩ = some (.int .i64 x) := fun m => later_old m (HBX.out.go hh.out.2.2).cell0
    have d1 : ∀ m : Later wr, m.val.cell? ⟨w.heap.size, 1, none⟩ = some (.int .i64 y) := fun m => later_old m (HBX.out.go hh.out.2.2).cell1
    by_cases hlt : i < j
    · have hm : (i + j) / 2 < n := by omega
      obtain ⟨m, hmm⟩ : ∃ m : Nat, m = (i + j) / 2 := ⟨_, rfl⟩
      have E2 : Hid (((i : Int) + (j : Int)) / 2 = (m : Int)) := Lib.hid (by omega)
      obtain ⟨b, o, u, v, hx, rfl, hb, hc1, hc2, x0, x1, y0, y1⟩ := ((HB.out.go HW.out).go hh.out.2.2).at_ (k := m) (by omega)
      have HX := Lib.hid hx
      have him : i ≤ m := by omega
      have hmj : m < j := by omega
      have hmn : m < n := by omega
      have e0 : ∀ m' : Later wr, m'.val.cell? ⟨b, o + m * 2, none⟩ = some (.int .i64 u) := fun m' => later_old m' hc1
      have e1 : ∀ m' : Later wr, m'.val.cell? ⟨b, o + m * 2 + 1, none⟩ = some (.int .i64 v) := fun m' => later_old m' hc2
      have hi0 : (0 : Int) ≤ (m : Int) := by omega
      have hi1 : (m : Int) < (n : Int) := by omega
      clear hc1 hc2 hx hmm hm
      go_wp2_with fail
      rw [E2.out]
      clear E2
      have HCP := Lib.hid (fun m' : Later wr => cmpOff_any u v x y m'.val)
      by_cases hoff : u < x
      · rw [show cmpI u x = -1 by simp [cmpI, hoff]] at HCP
        refine wp_region_later (by kernel_rfl) (by kernel_rfl) ?_
        repeat (go_big_quiet_step (first | (go_at_call 73; exact Calls.later (HCP.out _))))
        refine wpQuiet_nil ?_
        rintro w7 ⟨⟨_, hq⟩, rfl⟩
        have HQ := Lib.hid hq
        clear hq HCP e0 e1 d0 d1
        go_wp2
        go_roundw
        case rel => exact ⟨m + 1, j, by omega, hjn, by go_num, rfl, Lib.hid ⟨lb_lo HV.out HX.out hoff, hh.out.2.1, Below.then hh.out.2.2 HQ.out (Nat.le_refl _)⟩⟩
        case measure => simp [intOf]; omega
      · have hoff' : ¬ cmpI u x < 0 := by
          unfold cmpI
          rw [if_neg hoff]
          split <;> omega
        generalize cmpI u x = r at *
        have hd : decide (r < 0) = false := decide_eq_false hoff'
        refine wp_region_later (by kernel_rfl) (by kernel_rfl) ?_
        repeat (go_big_quiet_step (first | (go_at_call 73; exact Calls.later (HCP.out _))))
        refine wpQuiet_nil ?_
        rintro w7 ⟨⟨_, hq⟩, rfl⟩
        have HQ := Lib.hid hq
        clear hq HCP e0 e1 d0 d1
        go_wp2
        go_roundw
        case rel => exact ⟨i, m, him, by omega, rfl, rfl, Lib.hid ⟨hh.out.1, lb_hi HV.out HX.out (by simp only; omega), Below.then hh.out.2.2 HQ.out (Nat.le_refl _)⟩⟩
        case measure => simp [intOf]; omega
    · obtain rfl : i = j := by omega
      have HLB : Hid (Lb l x i) := Lib.hid ⟨by have := HB.out.len; omega, hh.out.1, hh.out.2.1⟩
      have HBB := Lib.hid (Below.then HW.out hh.out.2.2 (Nat.le_refl _))
      by_cases hin : i < n
      · obtain ⟨b, o, u, v, hx, rfl, hb, hc1, hc2, x0, x1, y0, y1⟩ := ((HB.out.go HW.out).go hh.out.2.2).at_ (k := i) hin
        have HX := Lib.hid hx
        have HCP := Lib.hid (fun m' : Later wr => cmpOff_any u v x y m'.val)
        have e0 : ∀ m' : Later wr, m'.val.cell? ⟨b, o + i * 2, none⟩ = some (.int .i64 u) := fun m' => later_old m' hc1
        have e1 : ∀ m' : Later wr, m'.val.cell? ⟨b, o + i * 2 + 1, none⟩ = some (.int .i64 v) := fun m' => later_old m' hc2
        have hi0 : (0 : Int) ≤ (i : Int) := by omega
        have hi1 : (i : Int) < (n : Int) := by omega
        have hdi : decide ((i : Int) < (n : Int)) = true := decide_eq_true hi1
        have HR : Hid ((cmpI u x == 0) = true ↔ ∃ z, l[i]? = some z ∧ z.1 = x) := Lib.hid (by
          have hu : x ≤ u := HLB.out.2.2 i (u, v) (Nat.le_refl _) hx
          rw [hx]
          simp only [Option.some.injEq, exists_eq_left']
          unfold cmpI
          rw [if_neg (by omega)]
          split
          · simp; omega
          · simp; omega)
        generalize cmpI u x = r at *
        clear hc1 hc2 hx hh hb
        go_wp2
        refine wp_region_later (by kernel_rfl) (by kernel_rfl) ?_
        repeat (go_big_quiet_step (first | (go_at_call 73; exact Calls.later (HCP.out _))))
        refine wpQuiet_nil ?_
        rintro w7 ⟨⟨_, hq⟩, rfl⟩
        have HQ := Lib.hid (Below.then HBB.out hq (Nat.le_refl _))
        clear hq HCP e0 e1 d0 d1
        go_wp2
        go_ret2
        exact ⟨i, _, rfl, HLB.out, HR.out, HQ.out⟩
      · have hin' : ¬ (i : Int) < (n : Int) := by omega
        have hdi : decide ((i : Int) < (n : Int)) = false := decide_eq_false hin'
        have HR : Hid (false = true ↔ ∃ z, l[i]? = some z ∧ z.1 = x) := Lib.hid (by
          rw [List.getElem?_eq_none (by have := HB.out.len; omega)]
          simp)
        clear hh
        go_wp2
        refine wp_region_later (by kernel_rfl) (by kernel_rfl) ?_
        repeat (go_big_quiet_step (fail))
        refine wpQuiet_nil ?_
        rintro w7 ⟨⟨_, hq⟩, rfl⟩
        have HQ := Lib.hid (Below.then HBB.out hq (Nat.le_refl _))
        clear hq d0 d1
        go_wp2
        go_ret2
        exact ⟨i, _, rfl, HLB.out, HR.out, HQ.out⟩
end Go.Proofs.Ytfchccgajcjbbaa
