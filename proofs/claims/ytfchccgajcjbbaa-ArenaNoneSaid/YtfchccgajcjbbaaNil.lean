/-
  Contracts of the allocator's methods on a nil allocator: it has no bytes. No conditions.
-/
import Derived.Test.YtfchccgajcjbbaaAlcF
namespace Go.Proofs.Ytfchccgajcjbbaa
open Go.ChangeShapes Go.WideShapes Go.ChangeAt Go.RowKit
set_option maxHeartbeats 8000000
set_option maxRecDepth 100000

/-- An allocator without bytes has no extent for anything. -/
theorem ch_nil (n : Int) : chR [] n = ((0, 0), (chR [] n).2) ∧ (chR [] n).2 ≠ 0 ∧ (chR [] n).2 = if erR n = 0 then 18 else erR n := by
  unfold chR
  by_cases h : erR n = 0
  · simp [h, best]
  · simp [h]
theorem choose_nil (n : Int) (w : World) : Calls Try.prog 63 #[.pointer none, .int .i64 n] w (ChE w ((0, 0), (chR [] n).2)) := by
  have hb0 : Below w.heap.size w (w.alloc (.cells #[.int .i64 0, .int .i64 0] 31)) := (Below.refl _ _).alloc (Nat.le_refl _) _
  have HBX := Lib.hid (Box.new (w := w) (x := 0) (y := 0))
  have HB0 := Lib.hid hb0
  have H := Lib.hid (round_any n (w.alloc (.cells #[.int .i64 0, .int .i64 0] 31)))
  have HR := Lib.hid (ch_nil n).2.2
  generalize (chR [] n).2 = r at *
  generalize szR n = s at *
  generalize erR n = er at *
  clear hb0
  go_enter Try.func63, Try.ntmps63
  go_wp2_with fail
  refine H.out.mono ?_
  rintro e w2 ⟨rfl, hb2⟩
  clear H
  generalize w.alloc (.cells #[.int .i64 0, .int .i64 0] 31) = w1 at *
  have HBX2 := Lib.hid (HBX.out.go hb2)
  have HB2 := Lib.hid (Below.then HB0.out hb2 (Nat.le_refl _))
  have g0 := HBX2.out.cell0
  have g1 := HBX2.out.cell1
  have g2 := HBX2.out.fr0
  have g3 := HBX2.out.fr1
  clear hb2 HBX HB0
  by_cases her : er = 0
  · subst her
    rw [if_pos rfl] at HR
    go_wp2
    have HBX3 := Lib.hid (HBX2.out.set 0 0)
    have HB3 := Lib.hid ((HB2.out.setCell (p := ⟨w.heap.size, 0, none⟩) (Nat.le_refl _) (.int .i64 0)).setCell (p := ⟨w.heap.size, 1, none⟩) (Nat.le_refl _) (.int .i64 0))
    generalize (w2.setCell ⟨w.heap.size, 0, none⟩ (.int .i64 0)).setCell ⟨w.heap.size, 1, none⟩ (.int .i64 0) = w3 at *
    have k0 := HBX3.out.cell0
    have k1 := HBX3.out.cell1
    exact bodyPost_ret (v := .tuple #[.agg #[.int .i64 0, .int .i64 0], .int .i64 18]) (by simp [results, Try.results63, go_sem, k0, k1]) rfl ⟨by rw [HR.out], HB3.out⟩
  · rw [if_neg her] at HR
    go_wp2
    have HBX3 := Lib.hid (HBX2.out.set 0 0)
    have HB3 := Lib.hid ((HB2.out.setCell (p := ⟨w.heap.size, 0, none⟩) (Nat.le_refl _) (.int .i64 0)).setCell (p := ⟨w.heap.size, 1, none⟩) (Nat.le_refl _) (.int .i64 0))
    generalize (w2.setCell ⟨w.heap.size, 0, none⟩ (.int .i64 0)).setCell ⟨w.heap.size, 1, none⟩ (.int .i64 0) = w3 at *
    have k0 := HBX3.out.cell0
    have k1 := HBX3.out.cell1
    exact bodyPost_ret (v := .tuple #[.agg #[.int .i64 0, .int .i64 0], .int .i64 er]) (by simp [results, Try.results63, go_sem, k0, k1]) rfl ⟨by rw [HR.out], HB3.out⟩
theorem alloc_nil (n : Int) (w : World) : Calls Try.prog 53 #[.pointer none, .int .i64 n] w (ChE w ((0, 0), (chR [] n).2)) := by
  have hb0 : Below w.heap.size w (w.alloc (.cells #[.int .i64 0, .int .i64 0] 31)) := (Below.refl _ _).alloc (Nat.le_refl _) _
  have HBX := Lib.hid (Box.new (w := w) (x := 0) (y := 0))
  have HB0 := Lib.hid hb0
  have H := Lib.hid (choose_nil n (w.alloc (.cells #[.int .i64 0, .int .i64 0] 31)))
  have hr := (ch_nil n).2.1
  generalize (chR [] n).2 = z at *
  clear hb0
  go_enter Try.func53, Try.ntmps53
  go_wp2_with fail
  refine H.out.mono ?_
  rintro e w2 ⟨rfl, hb2⟩
  have HBX2 := Lib.hid (HBX.out.go hb2)
  have HB2 := Lib.hid (Below.then HB0.out hb2 (Nat.le_refl _))
  have hb3 : Below w2.heap.size w2 (w2.alloc (.cells #[.int .i64 0, .int .i64 0] 31)) := (Below.refl _ _).alloc (Nat.le_refl _) _
  have HBX3 := Lib.hid (HBX2.out.go hb3)
  have HB3 := Lib.hid (Below.then HB2.out hb3 (Nat.le_refl _))
  have g0 := HBX3.out.cell0
  have g1 := HBX3.out.cell1
  have g2 := HBX3.out.fr0
  have g3 := HBX3.out.fr1
  clear H hb2 hb3
  go_wp2
  have HBX4 := Lib.hid (HBX3.out.set 0 0)
  have HB4 := Lib.hid ((HB3.out.setCell (p := ⟨w.heap.size, 0, none⟩) (Nat.le_refl _) (.int .i64 0)).setCell (p := ⟨w.heap.size, 1, none⟩) (Nat.le_refl _) (.int .i64 0))
  generalize ((w2.alloc (.cells #[.int .i64 0, .int .i64 0] 31)).setCell ⟨w.heap.size, 0, none⟩ (.int .i64 0)).setCell ⟨w.heap.size, 1, none⟩ (.int .i64 0) = w4 at *
  have k0 := HBX4.out.cell0
  have k1 := HBX4.out.cell1
  exact bodyPost_ret (v := .tuple #[.agg #[.int .i64 0, .int .i64 0], .int .i64 z]) (by simp [results, Try.results53, go_sem, k0, k1]) rfl ⟨rfl, HB4.out⟩
theorem fits_nil (n : Int) (w : World) : Calls Try.prog 50 #[.pointer none, .int .i64 n] w fun e w' => e = .returned (.int .i64 (chR [] n).2) ∧ Below w.heap.size w w' := by
  have H := Lib.hid (choose_nil n w)
  generalize (chR [] n).2 = z at *
  go_enter Try.func50, Try.ntmps50
  go_wp2_with fail
  refine H.out.mono ?_
  rintro e w2 ⟨rfl, hb2⟩
  have HB2 := Lib.hid hb2
  clear H hb2
  go_wp2
  go_ret
  exact ⟨rfl, HB2.out.alloc HB2.out.size _⟩
theorem locate_nil (x y : Int) (w : World) : Calls Try.prog 58 #[.pointer none, .agg #[.int .i64 x, .int .i64 y]] w fun e w' => e = .returned (.tuple #[.int .i64 0, .bool false]) ∧ Below w.heap.size w w' := by
  go_enter Try.func58, Try.ntmps58
  go_wp2
  go_ret2
  exact ⟨rfl, (Below.refl _ _).alloc (Nat.le_refl _) _⟩
theorem free_nil (x y : Int) (w : World) : Calls Try.prog 48 #[.pointer none, .agg #[.int .i64 x, .int .i64 y]] w fun e w' => e = .returned (.int .i64 6) ∧ Below w.heap.size w w' := by
  have hb0 : Below w.heap.size w (w.alloc (.cells #[.int .i64 x, .int .i64 y] 31)) := (Below.refl _ _).alloc (Nat.le_refl _) _
  have HB0 := Lib.hid hb0
  have H := Lib.hid (locate_nil x y (w.alloc (.cells #[.int .i64 x, .int .i64 y] 31)))
  clear hb0
  go_enter Try.func48, Try.ntmps48
  go_wp2_with fail
  refine H.out.mono ?_
  rintro e w2 ⟨rfl, hb2⟩
  have HB2 := Lib.hid (Below.then HB0.out hb2 (Nat.le_refl _))
  clear H hb2
  go_wp2
  go_ret
  exact ⟨rfl, HB2.out⟩
theorem has_nil (x y : Int) (w : World) : Calls Try.prog 41 #[.pointer none, .agg #[.int .i64 x, .int .i64 y]] w (Tell w false) := by
  have hb0 : Below w.heap.size w (w.alloc (.cells #[.int .i64 x, .int .i64 y] 31)) := (Below.refl _ _).alloc (Nat.le_refl _) _
  have HB0 := Lib.hid hb0
  have H := Lib.hid (locate_nil x y (w.alloc (.cells #[.int .i64 x, .int .i64 y] 31)))
  clear hb0
  go_enter Try.func41, Try.ntmps41
  go_wp2_with fail
  refine H.out.mono ?_
  rintro e w2 ⟨rfl, hb2⟩
  have HB2 := Lib.hid (Below.then HB0.out hb2 (Nat.le_refl _))
  clear H hb2
  go_wp2
  go_ret
  exact ⟨rfl, HB2.out⟩
theorem freeList_nil (w : World) : Calls Try.prog 49 #[.pointer none] w (MadeE w []) := by
  go_enter Try.func49, Try.ntmps49
  go_wp2
  go_ret
  exact ⟨_, rfl, OwnE.nil _ _ _, Below.refl _ _⟩

theorem gd_zero : Gd 0 [] [] := by
  have := gd_new (n := 0) (by omega) (by omega)
  rwa [show cmp 0 [] 0 = [] by decide] at this
end Go.Proofs.Ytfchccgajcjbbaa
