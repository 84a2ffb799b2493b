/-
  The law SizeclassOrder as a walk: it returns true and changes nothing that was there. No conditions.
-/
import Derived.Test.YtmfggknbhhagbaaSizeR
namespace Go.Proofs.Ytmfggknbhhagbaa
open Go.ChangeShapes Go.WideShapes Go.ChangeAt Go.RowKit Go.Shelf
attribute [local go_sem] Oper.semAt_some
set_option maxHeartbeats 3200000
set_option maxRecDepth 100000

theorem sizeclassOrder_walk (x y : Int) (w0 : World) (h0 : (Lit.int .u32 x).wf = true) (h1 : (Lit.int .u32 y).wf = true) :
    Calls Try.prog 6 #[.int .u32 x, .int .u32 y] w0 fun e w' => e = .returned (.bool true) ∧ Below w0.heap.size w0 w' := by
  have hx := Go.bounds_u32 h0
  have hy := Go.bounds_u32 h1
  have HB0 := Lib.hid (Below.refl w0.heap.size w0)
  have key : ∀ n m : Int, 1 ≤ n → n ≤ m → m ≤ 65536 → erR m = 0 ∧ szR n ≤ szR m ∧ clR n ≤ clR m ∧ (szR n = szR m ↔ clR n = clR m) ∧ 0 < szR n := by
    intro n m h1 h2 h3
    obtain ⟨e1, e2, e3⟩ := mid_R h1 (by omega)
    obtain ⟨d1, d2, d3⟩ := mid_R (n := m) (by omega) h3
    have h4 := cls_mono h2 h3
    have h5 := sz_le h4
    have h6 := sz_pos (k := cls n)
    rw [e1, e2, d1, d2, d3]
    refine ⟨rfl, h5, by omega, ⟨fun h => ?_, fun h => ?_⟩, h6⟩
    · rcases Nat.lt_or_ge (cls n) (cls m) with h7 | h7
      · have := sz_lt h7; omega
      · omega
    · have : cls n = cls m := by omega
      rw [this]
  clear h0 h1
  by_cases hxy : x % 65536 ≤ y % 65536
  · have key := key (1 + x % 65536) (1 + y % 65536) (by omega) (by omega) (by omega)
    have R := Lib.hid (fun W => round_any (1 + x % 65536) W)
    have R' := Lib.hid (fun W => round_any (1 + y % 65536) W)
    have C := Lib.hid (fun W => class_any (1 + x % 65536) W)
    have C' := Lib.hid (fun W => class_any (1 + y % 65536) W)
    generalize szR (1 + x % 65536) = a at *
    generalize szR (1 + y % 65536) = b at *
    generalize clR (1 + x % 65536) = c at *
    generalize clR (1 + y % 65536) = d at *
    generalize erR (1 + x % 65536) = ea at *
    obtain ⟨k1, k2, k3, k4, k5⟩ := key
    rw [k1] at R' C'
    clear k1
    have hq : (a == b) = (c == d) := by
      rw [Bool.eq_iff_iff, beq_iff_eq, beq_iff_eq]
      exact k4
    have HQ := Lib.hid k4
    clear k4
    go_enter Try.func6, Try.ntmps6
    go_wp2_with fail
    refine (R.out w0).mono ?_
    rintro e w1 ⟨rfl, hb⟩
    have HB1 := Lib.hid (Below.then HB0.out hb (Nat.le_refl _))
    clear hb
    go_wp2_with fail
    refine (R'.out w1).mono ?_
    rintro e w2 ⟨rfl, hb⟩
    have HB2 := Lib.hid (Below.then HB1.out hb (Nat.le_refl _))
    clear hb
    go_wp2_with fail
    refine (C.out w2).mono ?_
    rintro e w3 ⟨rfl, hb⟩
    have HB3 := Lib.hid (Below.then HB2.out hb (Nat.le_refl _))
    clear hb
    go_wp2_with fail
    refine (C'.out w3).mono ?_
    rintro e w4 ⟨rfl, hb⟩
    have HB4 := Lib.hid (Below.then HB3.out hb (Nat.le_refl _))
    clear hb
    go_wp2_with fail
    refine (awake_any w4).mono ?_
    rintro e w5 ⟨rfl, hb⟩
    have HB5 := Lib.hid (Below.then HB4.out hb (Nat.le_refl _))
    clear hb
    go_wp2
    go_ret
    exact ⟨rfl, HB5.out⟩
  · have key := key (1 + y % 65536) (1 + x % 65536) (by omega) (by omega) (by omega)
    have R := Lib.hid (fun W => round_any (1 + y % 65536) W)
    have R' := Lib.hid (fun W => round_any (1 + x % 65536) W)
    have C := Lib.hid (fun W => class_any (1 + y % 65536) W)
    have C' := Lib.hid (fun W => class_any (1 + x % 65536) W)
    generalize szR (1 + y % 65536) = a at *
    generalize szR (1 + x % 65536) = b at *
    generalize clR (1 + y % 65536) = c at *
    generalize clR (1 + x % 65536) = d at *
    generalize erR (1 + y % 65536) = ea at *
    obtain ⟨k1, k2, k3, k4, k5⟩ := key
    rw [k1] at R' C'
    clear k1
    have hq : (a == b) = (c == d) := by
      rw [Bool.eq_iff_iff, beq_iff_eq, beq_iff_eq]
      exact k4
    have HQ := Lib.hid k4
    clear k4
    go_enter Try.func6, Try.ntmps6
    go_wp2_with fail
    refine (R.out w0).mono ?_
    rintro e w1 ⟨rfl, hb⟩
    have HB1 := Lib.hid (Below.then HB0.out hb (Nat.le_refl _))
    clear hb
    go_wp2_with fail
    refine (R'.out w1).mono ?_
    rintro e w2 ⟨rfl, hb⟩
    have HB2 := Lib.hid (Below.then HB1.out hb (Nat.le_refl _))
    clear hb
    go_wp2_with fail
    refine (C.out w2).mono ?_
    rintro e w3 ⟨rfl, hb⟩
    have HB3 := Lib.hid (Below.then HB2.out hb (Nat.le_refl _))
    clear hb
    go_wp2_with fail
    refine (C'.out w3).mono ?_
    rintro e w4 ⟨rfl, hb⟩
    have HB4 := Lib.hid (Below.then HB3.out hb (Nat.le_refl _))
    clear hb
    go_wp2_with fail
    refine (awake_any w4).mono ?_
    rintro e w5 ⟨rfl, hb⟩
    have HB5 := Lib.hid (Below.then HB4.out hb (Nat.le_refl _))
    clear hb
    go_wp2
    go_ret
    exact ⟨rfl, HB5.out⟩
end Go.Proofs.Ytmfggknbhhagbaa
