/-
  The law AllocatorNew as a walk: it returns true and changes nothing that was there; with the contracts of a nil allocator. No conditions.
-/
import Derived.Test.YtbiamhandhbodaaUnLaw
namespace Go.Proofs.Ytbiamhandhbodaa
open Go.ChangeShapes Go.WideShapes Go.ChangeAt Go.RowKit
set_option maxHeartbeats 8000000
set_option maxRecDepth 100000

/-- An allocator without bytes has no extent for anything. -/
theorem ch_nil (n : Int) : chR [] n = ((0, 0), (chR [] n).2) ∧ (chR [] n).2 ≠ 0 ∧ (chR [] n).2 = if erR n = 0 then 18 else erR n := by
  unfold chR
  by_cases h : erR n = 0
  · simp [h, best]
  · simp [h]
theorem choose_nil (n : Int) (w : World) : Calls Try.prog 33 #[.pointer none, .int .i64 n] w (ChE w ((0, 0), (chR [] n).2)) := by
  have hb0 : Below w.heap.size w (w.alloc (.cells #[.int .i64 0, .int .i64 0] 39)) := (Below.refl _ _).alloc (Nat.le_refl _) _
  have HBX := Lib.hid (Box.new (w := w) (x := 0) (y := 0))
  have HB0 := Lib.hid hb0
  have H := Lib.hid (round_any n (w.alloc (.cells #[.int .i64 0, .int .i64 0] 39)))
  have HR := Lib.hid (ch_nil n).2.2
  generalize (chR [] n).2 = r at *
  generalize szR n = s at *
  generalize erR n = er at *
  clear hb0
  go_enter Try.func33, Try.ntmps33
  go_wp2_with fail
  refine H.out.mono ?_
  rintro e w2 ⟨rfl, hb2⟩
  clear H
  generalize w.alloc (.cells #[.int .i64 0, .int .i64 0] 39) = w1 at *
  have HBX2 := Lib.hid (HBX.out.go hb2)
  have HB2 := Lib.hid (Below.then HB0.out hb2 (Nat.le_refl _))
  have g0 := HBX2.out.cell0
  have g1 := HBX2.out.cell1
  have g2 := HBX2.out.fr0
  have g3 := HBX2.out.fr1
  clear hb2 HBX HB0
  by_cases her : er = 0
  · subst her
    rw [if_pos rfl] at HR
    go_wp2
    have HBX3 := Lib.hid (HBX2.out.set 0 0)
    have HB3 := Lib.hid ((HB2.out.setCell (p := ⟨w.heap.size, 0, none⟩) (Nat.le_refl _) (.int .i64 0)).setCell (p := ⟨w.heap.size, 1, none⟩) (Nat.le_refl _) (.int .i64 0))
    generalize (w2.setCell ⟨w.heap.size, 0, none⟩ (.int .i64 0)).setCell ⟨w.heap.size, 1, none⟩ (.int .i64 0) = w3 at *
    have k0 := HBX3.out.cell0
    have k1 := HBX3.out.cell1
    exact bodyPost_ret (v := .tuple #[.agg #[.int .i64 0, .int .i64 0], .int .i64 18]) (by simp [results, Try.results33, go_sem, k0, k1]) rfl ⟨by rw [HR.out], HB3.out⟩
  · rw [if_neg her] at HR
    go_wp2
    have HBX3 := Lib.hid (HBX2.out.set 0 0)
    have HB3 := Lib.hid ((HB2.out.setCell (p := ⟨w.heap.size, 0, none⟩) (Nat.le_refl _) (.int .i64 0)).setCell (p := ⟨w.heap.size, 1, none⟩) (Nat.le_refl _) (.int .i64 0))
    generalize (w2.setCell ⟨w.heap.size, 0, none⟩ (.int .i64 0)).setCell ⟨w.heap.size, 1, none⟩ (.int .i64 0) = w3 at *
    have k0 := HBX3.out.cell0
    have k1 := HBX3.out.cell1
    exact bodyPost_ret (v := .tuple #[.agg #[.int .i64 0, .int .i64 0], .int .i64 er]) (by simp [results, Try.results33, go_sem, k0, k1]) rfl ⟨by rw [HR.out], HB3.out⟩
theorem alloc_nil (n : Int) (w : World) : Calls Try.prog 13 #[.pointer none, .int .i64 n] w (ChE w ((0, 0), (chR [] n).2)) := by
  have hb0 : Below w.heap.size w (w.alloc (.cells #[.int .i64 0, .int .i64 0] 39)) := (Below.refl _ _).alloc (Nat.le_refl _) _
  have HBX := Lib.hid (Box.new (w := w) (x := 0) (y := 0))
  have HB0 := Lib.hid hb0
  have H := Lib.hid (choose_nil n (w.alloc (.cells #[.int .i64 0, .int .i64 0] 39)))
  have hr := (ch_nil n).2.1
  generalize (chR [] n).2 = z at *
  clear hb0
  go_enter Try.func13, Try.ntmps13
  go_wp2_with fail
  refine H.out.mono ?_
  rintro e w2 ⟨rfl, hb2⟩
  have HBX2 := Lib.hid (HBX.out.go hb2)
  have HB2 := Lib.hid (Below.then HB0.out hb2 (Nat.le_refl _))
  have hb3 : Below w2.heap.size w2 (w2.alloc (.cells #[.int .i64 0, .int .i64 0] 39)) := (Below.refl _ _).alloc (Nat.le_refl _) _
  have HBX3 := Lib.hid (HBX2.out.go hb3)
  have HB3 := Lib.hid (Below.then HB2.out hb3 (Nat.le_refl _))
  have g0 := HBX3.out.cell0
  have g1 := HBX3.out.cell1
  have g2 := HBX3.out.fr0
  have g3 := HBX3.out.fr1
  clear H hb2 hb3
  go_wp2
  have HBX4 := Lib.hid (HBX3.out.set 0 0)
  have HB4 := Lib.hid ((HB3.out.setCell (p := ⟨w.heap.size, 0, none⟩) (Nat.le_refl _) (.int .i64 0)).setCell (p := ⟨w.heap.size, 1, none⟩) (Nat.le_refl _) (.int .i64 0))
  generalize ((w2.alloc (.cells #[.int .i64 0, .int .i64 0] 39)).setCell ⟨w.heap.size, 0, none⟩ (.int .i64 0)).setCell ⟨w.heap.size, 1, none⟩ (.int .i64 0) = w4 at *
  have k0 := HBX4.out.cell0
  have k1 := HBX4.out.cell1
  exact bodyPost_ret (v := .tuple #[.agg #[.int .i64 0, .int .i64 0], .int .i64 z]) (by simp [results, Try.results13, go_sem, k0, k1]) rfl ⟨rfl, HB4.out⟩
theorem fits_nil (n : Int) (w : World) : Calls Try.prog 15 #[.pointer none, .int .i64 n] w fun e w' => e = .returned (.int .i64 (chR [] n).2) ∧ Below w.heap.size w w' := by
  have H := Lib.hid (choose_nil n w)
  generalize (chR [] n).2 = z at *
  go_enter Try.func15, Try.ntmps15
  go_wp2_with fail
  refine H.out.mono ?_
  rintro e w2 ⟨rfl, hb2⟩
  have HB2 := Lib.hid hb2
  clear H hb2
  go_wp2
  go_ret
  exact ⟨rfl, HB2.out.alloc HB2.out.size _⟩
theorem locate_nil (x y : Int) (w : World) : Calls Try.prog 34 #[.pointer none, .agg #[.int .i64 x, .int .i64 y]] w fun e w' => e = .returned (.tuple #[.int .i64 0, .bool false]) ∧ Below w.heap.size w w' := by
  go_enter Try.func34, Try.ntmps34
  go_wp2
  go_ret2
  exact ⟨rfl, (Below.refl _ _).alloc (Nat.le_refl _) _⟩
theorem free_nil (x y : Int) (w : World) : Calls Try.prog 16 #[.pointer none, .agg #[.int .i64 x, .int .i64 y]] w fun e w' => e = .returned (.int .i64 6) ∧ Below w.heap.size w w' := by
  have hb0 : Below w.heap.size w (w.alloc (.cells #[.int .i64 x, .int .i64 y] 39)) := (Below.refl _ _).alloc (Nat.le_refl _) _
  have HB0 := Lib.hid hb0
  have H := Lib.hid (locate_nil x y (w.alloc (.cells #[.int .i64 x, .int .i64 y] 39)))
  clear hb0
  go_enter Try.func16, Try.ntmps16
  go_wp2_with fail
  refine H.out.mono ?_
  rintro e w2 ⟨rfl, hb2⟩
  have HB2 := Lib.hid (Below.then HB0.out hb2 (Nat.le_refl _))
  clear H hb2
  go_wp2
  go_ret
  exact ⟨rfl, HB2.out⟩
theorem has_nil (x y : Int) (w : World) : Calls Try.prog 17 #[.pointer none, .agg #[.int .i64 x, .int .i64 y]] w (Tell w false) := by
  have hb0 : Below w.heap.size w (w.alloc (.cells #[.int .i64 x, .int .i64 y] 39)) := (Below.refl _ _).alloc (Nat.le_refl _) _
  have HB0 := Lib.hid hb0
  have H := Lib.hid (locate_nil x y (w.alloc (.cells #[.int .i64 x, .int .i64 y] 39)))
  clear hb0
  go_enter Try.func17, Try.ntmps17
  go_wp2_with fail
  refine H.out.mono ?_
  rintro e w2 ⟨rfl, hb2⟩
  have HB2 := Lib.hid (Below.then HB0.out hb2 (Nat.le_refl _))
  clear H hb2
  go_wp2
  go_ret
  exact ⟨rfl, HB2.out⟩
theorem freeList_nil (w : World) : Calls Try.prog 18 #[.pointer none] w (MadeE w []) := by
  go_enter Try.func18, Try.ntmps18
  go_wp2
  go_ret
  exact ⟨_, rfl, OwnE.nil _ _ _, Below.refl _ _⟩

/-- A value that is an allocator without bytes, from the world w on. -/
structure Zc (w : World) (v : Value) : Prop where
  al : ∀ W, Below w.heap.size w W → ∀ n, Calls Try.prog 13 #[v, .int .i64 n] W (ChE W ((0, 0), (chR [] n).2))
  fi : ∀ W, Below w.heap.size w W → ∀ n, Calls Try.prog 15 #[v, .int .i64 n] W fun e w' => e = .returned (.int .i64 (chR [] n).2) ∧ Below W.heap.size W w'
  fr : ∀ W, Below w.heap.size w W → ∀ x y, Calls Try.prog 16 #[v, .agg #[.int .i64 x, .int .i64 y]] W fun e w' => e = .returned (.int .i64 6) ∧ Below W.heap.size W w'
  ha : ∀ W, Below w.heap.size w W → ∀ x y, Calls Try.prog 17 #[v, .agg #[.int .i64 x, .int .i64 y]] W (Tell W false)
  fl : ∀ W, Below w.heap.size w W → Calls Try.prog 18 #[v] W (MadeE W [])
  li : ∀ W, Below w.heap.size w W → Calls Try.prog 19 #[v] W (MadeE W [])
theorem zc_nil (w : World) : Zc w (.pointer none) := ⟨fun W _ n => alloc_nil n W, fun W _ n => fits_nil n W, fun W _ x y => free_nil x y W, fun W _ x y => has_nil x y W, fun W _ => freeList_nil W, fun W _ => listed_nil W⟩
theorem gd_zero : Gd 0 [] [] := by
  have := gd_new (n := 0) (by omega) (by omega)
  rwa [show cmp 0 [] 0 = [] by decide] at this
theorem zc_zero {w : World} {c : Nat → Nat} {p : Nat} (h : Alc w c 1 p [] []) : Zc w (.pointer (some ⟨p, 0, none⟩)) :=
  ⟨fun W hW n => alloc_no c 1 p [] [] n W (h.go hW) (by simp) (ch_nil n).2.1, fun W hW n => fits_any c 1 p [] [] n W (h.go hW) (by simp), fun W hW x y => free_no c 1 p [] [] 0 x y W (h.go hW) gd_zero (by simp) (by simp),
    fun W hW x y => by have := has_alc c 1 p [] [] 0 x y W (h.go hW) gd_zero (by simp); simpa using this, fun W hW => freeList_any c 1 p [] [] W (h.go hW) (by simp), fun W hW => listed_any c 1 p [] [] W (h.go hW) (by simp)⟩
end Go.Proofs.Ytbiamhandhbodaa
