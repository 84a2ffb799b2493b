/-
  The laws' own helpers of layer 7: the choice of an extent and of an offset. Conditions: at most nine hundred extents.
-/
import Derived.Test.YtfchccgajcjbbaaMrnF
import Derived.Test.YtfchccgajcjbbaaMrnC
import Derived.Test.YtfchccgajcjbbaaStg
namespace Go.Proofs.Ytfchccgajcjbbaa
open Go.ChangeShapes Go.WideShapes Go.ChangeAt Go.RowKit
set_option maxHeartbeats 8000000
set_option maxRecDepth 100000

/-- The offset that a byte stands for. -/
def offV (x : Int) : Int := x % 24 - x / 240 * 9
theorem off_any (x : Int) (w : World) (h : 0 ≤ x ∧ x ≤ 255) :
    Calls Try.prog 30 #[.int .u8 x] w fun e w' => e = .returned (.int .i64 (offV x)) ∧ Below w.heap.size w w' := by
  obtain ⟨h0, h1⟩ := h
  have HV : Hid (x % 24 - x / 240 * 9 = offV x) := Lib.hid rfl
  go_enter Try.func30, Try.ntmps30
  go_wp2
  go_ret
  exact ⟨by rw [← HV.out]; rfl, Below.refl _ _⟩
def EtE (w : World) (e : Ending) (w' : World) : Prop := ∃ x y : Int, e = .returned (.agg #[.int .i64 x, .int .i64 y]) ∧ (0 ≤ x ∧ x ≤ 1048576) ∧ (0 ≤ y ∧ y ≤ 1048592) ∧ Below w.heap.size w w'
theorem extent_any (c : Nat → Nat) (q g : Nat) (U : List (Int × Int)) (bs : List Int) (k h : Int) (w : World) (hm : Mrn w c q g U bs) (hi : Ins bs.length U) (hU : U.length ≤ 900) (hk : 0 ≤ k ∧ k ≤ 255) (hh : 0 ≤ h ∧ h ≤ 255) :
    Calls Try.prog 13 #[.pointer (some ⟨q, 0, none⟩), .int .u8 k, .int .u8 h] w (EtE w) := by
  obtain ⟨k0, k1⟩ := hk
  obtain ⟨h0, h1⟩ := hh
  have hb0 : Below w.heap.size w (w.alloc (.cells #[.int .i64 0, .int .i64 0] 31)) := (Below.refl _ _).alloc (Nat.le_refl _) _
  have hs0 : (w.alloc (.cells #[.int .i64 0, .int .i64 0] 31)).heap.size = w.heap.size + 1 := by simp
  have hx0 := Box.new (w := w) (x := 0) (y := 0)
  have hb1 : Below w.heap.size w ((w.alloc (.cells #[.int .i64 0, .int .i64 0] 31)).alloc (.cells #[.int .i64 k, .int .i64 16] 31)) := hb0.alloc hb0.size _
  have hx1 := Box.new (w := w.alloc (.cells #[.int .i64 0, .int .i64 0] 31)) (x := k) (y := 16)
  have hx01 := hx0.go ((Below.refl _ _).alloc (Nat.le_refl _) (.cells #[.int .i64 k, .int .i64 16] 31))
  rw [hs0] at hx1
  obtain ⟨Au, nu, cu, _, hc1, hx⟩ := hm.mo.open_
  have hnu : nu ≤ 900 := by have := hx.len; omega
  have hqlt := hm.lt
  have HX := Lib.hid (hx.go hb1)
  have HIN := Lib.hid hi
  have hcap := hx.cap
  have hsm := hx.small
  unfold maxLen at hsm
  have HB1 := Lib.hid hb1
  have HX0 := Lib.hid hx01
  have HX1 := Lib.hid hx1
  have HCU := Lib.hid hc1
  have hSM := hm.small
  clear hm hi hx hb0 hb1 hx0 hx1 hx01 hs0
  have hmh : h % 12 = 11 ∨ ¬ h % 12 = 11 := by omega
  by_cases hz : nu = 0
  · subst hz
    clear HX
    rcases hmh with h11 | h11
    · go_enter Try.func13, Try.ntmps13
      go_wp2
      exact bodyPost_ret (v := .agg #[.int .i64 k, .int .i64 32]) (by simp [results, Try.results13, go_sem]) rfl ⟨_, _, rfl, by omega, by omega, ((Below.refl _ _).alloc (Nat.le_refl _) _).alloc (by simp) _⟩
    · go_enter Try.func13, Try.ntmps13
      go_wp2
      exact bodyPost_ret (v := .agg #[.int .i64 k, .int .i64 16]) (by simp [results, Try.results13, go_sem]) rfl ⟨_, _, rfl, by omega, by omega, ((Below.refl _ _).alloc (Nat.le_refl _) _).alloc (by simp) _⟩
  · have hne : ¬ ((nu : Int) = 0) := by omega
    have hpos : (0 : Int) < (nu : Int) := by omega
    have hm0 : 0 ≤ k % (nu : Int) := Int.emod_nonneg _ hne
    have hm1 : k % (nu : Int) < (nu : Int) := Int.emod_lt_of_pos _ (by omega)
    obtain ⟨j, hj⟩ : ∃ j : Nat, k % (nu : Int) = (j : Int) := ⟨(k % (nu : Int)).toNat, by omega⟩
    have htm : k.tmod (nu : Int) = (j : Int) := by rw [Int.tmod_eq_emod_of_nonneg k0]; exact hj
    have hjn : j < nu := by omega
    obtain ⟨b, o, u, v, hu, rfl, hb, hcu, hcv, _, _, _, _⟩ := HX.out.at_ hjn
    obtain ⟨u0, v0, uv, v1⟩ := HIN.out u v (List.mem_of_getElem? hu)
    have hj1 : (j : Int) < (nu : Int) := by omega
    have hj0 : ¬ (j : Int) < 0 := by omega
    have hwj : IntKind.i64.wrap (j : Int) = j := by rw [IntKind.wrap_i64]; omega
    have HCUV := Lib.hid (And.intro hcu hcv)
    have HC1 : Hid (((w.alloc (.cells #[.int .i64 0, .int .i64 0] 31)).alloc (.cells #[.int .i64 k, .int .i64 16] 31)).cell? ⟨q, 1, none⟩ = some (.slice (some ⟨b, o, none⟩) nu cu)) := Lib.hid (cell_under (cell_under HCU.out _) _)
    clear hcu hcv hu hm0 hm1 HX HIN hj
    go_enter Try.func13, Try.ntmps13
    go_wp2
    generalize (w.alloc (.cells #[.int .i64 0, .int .i64 0] 31)).alloc (.cells #[.int .i64 k, .int .i64 16] 31) = w2 at *
    have a1 : ∀ m : Later w2, m.val.cell? ⟨q, 1, none⟩ = some (.slice (some ⟨b, o, none⟩) nu cu) := fun m => later_old m HC1.out
    have a2 : ∀ m : Later w2, m.val.cell? ⟨b, o + j * 2, none⟩ = some (.int .i64 u) := fun m => later_old m HCUV.out.1
    have a3 : ∀ m : Later w2, m.val.cell? ⟨b, o + j * 2 + 1, none⟩ = some (.int .i64 v) := fun m => later_old m HCUV.out.2
    refine wp_region_later_tail 16 (by kernel_rfl) (by kernel_rfl) ?_
    simp only [List.take_succ_cons, List.take_zero, List.drop_succ_cons, List.drop_zero]
    repeat (go_big_quiet_step (fail))
    refine wpQuiet_nil ?_
    rintro w7 ⟨⟨_, hq⟩, rfl⟩
    have HB7 := Lib.hid (Below.then HB1.out hq (Nat.le_refl _))
    have HX0 := Lib.hid (HX0.out.go hq)
    have HX1 := Lib.hid (HX1.out.go hq)
    have g2 := HX1.out.fr0
    have g3 := HX1.out.fr1
    have g4 := HX1.out.cell0
    have g5 := HX1.out.cell1
    have hw7 : w.heap.size < w7.heap.size := HX0.out.lt
    clear a1 a2 a3 hq HB1
    have hx8 := HX1.out.set u v
    have hy8 := (HX0.out.setc (b' := w.heap.size + 1) (o := 0) (by omega) (.int .i64 u)).setc (b' := w.heap.size + 1) (o := 1) (by omega) (.int .i64 v)
    have hb8 : Below w.heap.size w ((w7.setCell ⟨w.heap.size + 1, 0, none⟩ (.int .i64 u)).setCell ⟨w.heap.size + 1, 1, none⟩ (.int .i64 v)) := (HB7.out.setCell (p := ⟨w.heap.size + 1, 0, none⟩) (by simp) (.int .i64 u)).setCell (p := ⟨w.heap.size + 1, 1, none⟩) (by simp) (.int .i64 v)
    rcases hmh with h11 | h11
    · have hx9 : Box (((w7.setCell ⟨w.heap.size + 1, 0, none⟩ (.int .i64 u)).setCell ⟨w.heap.size + 1, 1, none⟩ (.int .i64 v)).setCell ⟨w.heap.size + 1, 1, none⟩ (.int .i64 (v + 16))) (w.heap.size + 1) u (v + 16) := heap_setCell_same _ _ 1 _ _ _ hx8
      have hy9 := hy8.setc (b' := w.heap.size + 1) (o := 1) (by omega) (.int .i64 (v + 16))
      have hb9 := hb8.setCell (p := ⟨w.heap.size + 1, 1, none⟩) (by simp) (.int .i64 (v + 16))
      have hbz := (hb9.setCell (p := ⟨w.heap.size, 0, none⟩) (by simp) (.int .i64 u)).setCell (p := ⟨w.heap.size, 1, none⟩) (by simp) (.int .i64 (v + 16))
      have hyz := hy9.set u (v + 16)
      have HBZ := Lib.hid hbz
      have e0 := hx8.cell1
      have e1 := hx8.fr1
      have e2 := hx9.cell0
      have e3 := hx9.cell1
      have e4 := hy9.cell0
      have e5 := hy9.cell1
      have e6 := hy9.fr0
      have e7 := hy9.fr1
      have e8 := hyz.cell0
      have e9 := hyz.cell1
      clear hx8 hy8 hb8 hx9 hy9 hb9 hbz hyz
      go_wp2
      exact bodyPost_ret (v := .agg #[.int .i64 u, .int .i64 (v + 16)]) (by simp [results, Try.results13, go_sem, e8, e9]) rfl ⟨_, _, rfl, by omega, by omega, HBZ.out⟩
    · have hbz := (hb8.setCell (p := ⟨w.heap.size, 0, none⟩) (by simp) (.int .i64 u)).setCell (p := ⟨w.heap.size, 1, none⟩) (by simp) (.int .i64 v)
      have hyz := hy8.set u v
      have HBZ := Lib.hid hbz
      have e2 := hx8.cell0
      have e3 := hx8.cell1
      have e4 := hy8.cell0
      have e5 := hy8.cell1
      have e6 := hy8.fr0
      have e7 := hy8.fr1
      have e8 := hyz.cell0
      have e9 := hyz.cell1
      clear hx8 hy8 hb8 hbz hyz
      go_wp2
      exact bodyPost_ret (v := .agg #[.int .i64 u, .int .i64 v]) (by simp [results, Try.results13, go_sem, e8, e9]) rfl ⟨_, _, rfl, by omega, by omega, HBZ.out⟩
end Go.Proofs.Ytfchccgajcjbbaa
