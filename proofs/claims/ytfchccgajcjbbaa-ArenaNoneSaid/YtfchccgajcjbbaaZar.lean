/-
  Contracts of the arena's methods on a nil arena and on a zero one: they have no bytes. No conditions.
-/
import Derived.Test.YtfchccgajcjbbaaNil
import Derived.Test.YtfchccgajcjbbaaArnC
namespace Go.Proofs.Ytfchccgajcjbbaa
open Go.ChangeShapes Go.WideShapes Go.ChangeAt Go.RowKit
set_option maxHeartbeats 8000000
set_option maxRecDepth 100000

/-- The allocator is nil. -/
def NoE (w : World) (e : Ending) (w' : World) : Prop := e = .returned (.pointer none) ∧ Below w.heap.size w w'
theorem parts_nil (w : World) : Calls Try.prog 40 #[.pointer none] w (NoE w) := by
  go_enter Try.func40, Try.ntmps40
  go_wp2
  go_ret
  exact ⟨rfl, Below.refl _ _⟩
/-- A zero arena. -/
def Za (w : World) (a : Nat) : Prop := w.heap[a]? = some (.cells #[.pointer none, .slice none 0 0] 56 (0, 0))
theorem Za.go {w w' : World} {a : Nat} (h : Za w a) (hb : Below w.heap.size w w') : Za w' a := (hb.block a (Array.getElem?_eq_some_iff.1 h).1).trans h
theorem parts_zero (a : Nat) (w : World) (h : Za w a) : Calls Try.prog 40 #[.pointer (some ⟨a, 0, none⟩)] w (NoE w) := by
  have h0 : w.cell? ⟨a, 0, none⟩ = some (.pointer none) := cell_of_row w a 0 _ _ _ h
  clear h
  go_enter Try.func40, Try.ntmps40
  go_wp2
  go_ret
  exact ⟨rfl, Below.refl _ _⟩
theorem bytes_nil (w : World) : Calls Try.prog 27 #[.pointer none] w (MadB w []) := by
  go_enter Try.func27, Try.ntmps27
  go_wp2
  go_ret
  exact ⟨_, rfl, Own.nil _ _ _, Below.refl _ _⟩
theorem cloneB_nil (w : World) : Calls Try.prog 43 #[.slice none 0 0] w (MadB w []) := by
  have hq : ∀ W : World, (binOp .eql 40 (.slice none 0 0) (.slice none 0 0)).run Try.prog W = .ok (.bool true) W := fun W => Lib.run_eql_slice_nil W _ _ none 0 0 0 0 Try.underlying40
  go_enter Try.func43, Try.ntmps43
  go_wp2
  go_ret
  exact ⟨_, rfl, Own.nil _ _ _, Below.refl _ _⟩
theorem bytes_zero (a : Nat) (w : World) (h : Za w a) : Calls Try.prog 27 #[.pointer (some ⟨a, 0, none⟩)] w (MadB w []) := by
  have h1 : w.cell? ⟨a, 1, none⟩ = some (.slice none 0 0) := cell_of_row w a 1 _ _ _ h
  have H := Lib.hid (cloneB_nil w)
  clear h
  go_enter Try.func27, Try.ntmps27
  go_wp2_with fail
  refine H.out.mono ?_
  rintro e w2 ⟨v, rfl, ho, hb⟩
  have HB2 := Lib.hid hb
  have HO := Lib.hid ho
  obtain ⟨A', n', c', rfl, _⟩ := ho.shape
  clear ho hb H
  go_wp2
  go_ret
  exact ⟨_, rfl, HO.out, HB2.out⟩

/-- An arena without bytes, from the world w on. -/
structure Ba (w : World) (a : Option Addr) : Prop where
  pa : ∀ W, Below w.heap.size w W → Calls Try.prog 40 #[.pointer a] W (NoE W)
  by_ : ∀ W, Below w.heap.size w W → Calls Try.prog 27 #[.pointer a] W (MadB W [])
theorem ba_nil (w : World) : Ba w none := ⟨fun W _ => parts_nil W, fun W _ => bytes_nil W⟩
theorem ba_zero {w : World} {a : Nat} (h : Za w a) : Ba w (some ⟨a, 0, none⟩) := ⟨fun W hW => parts_zero a W (h.go hW), fun W hW => bytes_zero a W (h.go hW)⟩
theorem Ba.go {w w' : World} {a : Option Addr} (h : Ba w a) (hb : Below w.heap.size w w') : Ba w' a :=
  ⟨fun W hW => h.pa W (Below.then hb hW (Nat.le_refl _)), fun W hW => h.by_ W (Below.then hb hW (Nat.le_refl _))⟩

theorem fits_ba (a : Option Addr) (n : Int) (w : World) (h : Ba w a) : Calls Try.prog 28 #[.pointer a, .int .i64 n] w (NumE w (chR [] n).2) := by
  have H1 := Lib.hid (h.pa w (Below.refl _ _))
  have H2 := Lib.hid (fun W => fits_nil n W)
  generalize (chR [] n).2 = r at *
  clear h
  go_enter Try.func28, Try.ntmps28
  go_wp2_with fail
  refine H1.out.mono ?_
  rintro e w1 ⟨rfl, hb⟩
  have HB1 := Lib.hid hb
  clear hb H1
  go_wp2_with fail
  refine (H2.out w1).mono ?_
  rintro e w2 ⟨rfl, hb⟩
  have HB2 := Lib.hid (Below.then HB1.out hb (Nat.le_refl _))
  clear hb H2 HB1
  go_wp2
  go_ret
  exact ⟨rfl, HB2.out⟩
theorem freeList_ba (a : Option Addr) (w : World) (h : Ba w a) : Calls Try.prog 26 #[.pointer a] w (MadeE w []) := by
  have H1 := Lib.hid (h.pa w (Below.refl _ _))
  clear h
  go_enter Try.func26, Try.ntmps26
  go_wp2_with fail
  refine H1.out.mono ?_
  rintro e w1 ⟨rfl, hb⟩
  have HB1 := Lib.hid hb
  clear hb H1
  go_wp2_with fail
  refine (freeList_nil w1).mono ?_
  rintro e w2 ⟨v, rfl, ho, hb⟩
  have HB2 := Lib.hid (Below.then HB1.out hb (Nat.le_refl _))
  have HO := Lib.hid (ho.down (B := w.heap.size) HB1.out.size)
  obtain ⟨A', n', c', rfl, _⟩ := ho.shape
  clear ho hb HB1
  go_wp2
  go_ret
  exact ⟨_, rfl, HO.out, HB2.out⟩
theorem free_ba (a : Option Addr) (x y : Int) (w : World) (h : Ba w a) : Calls Try.prog 25 #[.pointer a, .agg #[.int .i64 x, .int .i64 y]] w (NumE w 6) := by
  have hb0 : Below w.heap.size w (w.alloc (.cells #[.int .i64 x, .int .i64 y] 31)) := (Below.refl _ _).alloc (Nat.le_refl _) _
  have HBX := Lib.hid (Box.new (w := w) (x := x) (y := y))
  have HB0 := Lib.hid hb0
  have HR := Lib.hid (h.go hb0)
  clear h hb0
  go_enter Try.func25, Try.ntmps25
  go_wp2
  generalize w.alloc (.cells #[.int .i64 x, .int .i64 y] 31) = w1 at *
  have a1 : ∀ m : Later w1, m.val.cell? ⟨w.heap.size, 0, none⟩ = some (.int .i64 x) := fun m => later_old m HBX.out.cell0
  have a2 : ∀ m : Later w1, m.val.cell? ⟨w.heap.size, 1, none⟩ = some (.int .i64 y) := fun m => later_old m HBX.out.cell1
  have H1 := Lib.hid (fun m : Later w1 => HR.out.pa m.val m.2)
  have H2 := Lib.hid (fun m : Later w1 => free_nil x y m.val)
  refine wp_region_later (by kernel_rfl) (by kernel_rfl) ?_
  repeat (go_big_quiet_step (first | (go_at_call 40; exact Calls.later (H1.out _)) | (go_at_call 48; exact Calls.later (H2.out _))))
  refine wpQuiet_nil ?_
  rintro w4 ⟨⟨_, hq⟩, rfl⟩
  have HB4 := Lib.hid (Below.then HB0.out hq (Nat.le_refl _))
  clear hq H1 H2 HB0 HBX HR a1 a2
  go_wp2
  go_ret
  exact ⟨rfl, HB4.out⟩
theorem number_ba (a : Option Addr) (x y off n : Int) (w : World) (h : Ba w a) :
    Calls Try.prog 36 #[.pointer a, .agg #[.int .i64 x, .int .i64 y], .int .i64 off, .int .i64 n] w (NumE w 6) := by
  have hb0 : Below w.heap.size w (w.alloc (.cells #[.int .i64 x, .int .i64 y] 31)) := (Below.refl _ _).alloc (Nat.le_refl _) _
  have HBX := Lib.hid (Box.new (w := w) (x := x) (y := y))
  have HB0 := Lib.hid hb0
  have HR := Lib.hid (h.go hb0)
  clear h hb0
  go_enter Try.func36, Try.ntmps36
  go_wp2
  generalize w.alloc (.cells #[.int .i64 x, .int .i64 y] 31) = w1 at *
  have a1 : ∀ m : Later w1, m.val.cell? ⟨w.heap.size, 0, none⟩ = some (.int .i64 x) := fun m => later_old m HBX.out.cell0
  have a2 : ∀ m : Later w1, m.val.cell? ⟨w.heap.size, 1, none⟩ = some (.int .i64 y) := fun m => later_old m HBX.out.cell1
  have H1 := Lib.hid (fun m : Later w1 => HR.out.pa m.val m.2)
  have H2 := Lib.hid (fun m : Later w1 => has_nil x y m.val)
  refine wp_region_later (by kernel_rfl) (by kernel_rfl) ?_
  repeat (go_big_quiet_step (first | (go_at_call 40; exact Calls.later (H1.out _)) | (go_at_call 41; exact Calls.later (H2.out _))))
  refine wpQuiet_nil ?_
  rintro w4 ⟨⟨_, hq⟩, rfl⟩
  have HB4 := Lib.hid (Below.then HB0.out hq (Nat.le_refl _))
  clear hq H1 H2 HB0 HBX HR a1 a2
  go_wp2
  go_ret
  exact ⟨rfl, HB4.out⟩
theorem load_ba (a : Option Addr) (x y off n : Int) (w : World) (h : Ba w a) :
    Calls Try.prog 14 #[.pointer a, .agg #[.int .i64 x, .int .i64 y], .int .i64 off, .int .i64 n] w (LdE w 0 6) := by
  have hb0 : Below w.heap.size w (w.alloc (.cells #[.int .i64 x, .int .i64 y] 31)) := (Below.refl _ _).alloc (Nat.le_refl _) _
  have HB0 := Lib.hid hb0
  have H1 := Lib.hid (number_ba a x y off n _ (h.go hb0))
  clear h hb0
  go_enter Try.func14, Try.ntmps14
  go_wp2_with fail
  refine H1.out.mono ?_
  rintro e w1 ⟨rfl, hb⟩
  have HB1 := Lib.hid (Below.then HB0.out hb (Nat.le_refl _))
  clear hb H1 HB0
  go_wp2
  go_ret2
  exact ⟨rfl, HB1.out⟩
theorem store_ba (a : Option Addr) (x y off n v : Int) (w : World) (h : Ba w a) :
    Calls Try.prog 18 #[.pointer a, .agg #[.int .i64 x, .int .i64 y], .int .i64 off, .int .i64 n, .int .u64 v] w (NumE w 6) := by
  have hb0 : Below w.heap.size w (w.alloc (.cells #[.int .i64 x, .int .i64 y] 31)) := (Below.refl _ _).alloc (Nat.le_refl _) _
  have HB0 := Lib.hid hb0
  have H1 := Lib.hid (number_ba a x y off n _ (h.go hb0))
  clear h hb0
  go_enter Try.func18, Try.ntmps18
  go_wp2_with fail
  refine H1.out.mono ?_
  rintro e w1 ⟨rfl, hb⟩
  have HB1 := Lib.hid (Below.then HB0.out hb (Nat.le_refl _))
  clear hb H1 HB0
  go_wp2
  go_ret
  exact ⟨rfl, HB1.out⟩
theorem read_ba (a : Option Addr) (x y off n : Int) (w : World) (h : Ba w a) :
    Calls Try.prog 16 #[.pointer a, .agg #[.int .i64 x, .int .i64 y], .int .i64 off, .int .i64 n] w fun e w' => e = .returned (.tuple #[.slice none 0 0, .int .i64 6]) ∧ Below w.heap.size w w' := by
  have hb0 : Below w.heap.size w (w.alloc (.cells #[.int .i64 x, .int .i64 y] 31)) := (Below.refl _ _).alloc (Nat.le_refl _) _
  have HBX := Lib.hid (Box.new (w := w) (x := x) (y := y))
  have HB0 := Lib.hid hb0
  have HR := Lib.hid (h.go hb0)
  clear h hb0
  go_enter Try.func16, Try.ntmps16
  go_wp2
  generalize w.alloc (.cells #[.int .i64 x, .int .i64 y] 31) = w1 at *
  have a1 : ∀ m : Later w1, m.val.cell? ⟨w.heap.size, 0, none⟩ = some (.int .i64 x) := fun m => later_old m HBX.out.cell0
  have a2 : ∀ m : Later w1, m.val.cell? ⟨w.heap.size, 1, none⟩ = some (.int .i64 y) := fun m => later_old m HBX.out.cell1
  have H1 := Lib.hid (fun m : Later w1 => HR.out.pa m.val m.2)
  have H2 := Lib.hid (fun m : Later w1 => has_nil x y m.val)
  refine wp_region_later (by kernel_rfl) (by kernel_rfl) ?_
  repeat (go_big_quiet_step (first | (go_at_call 40; exact Calls.later (H1.out _)) | (go_at_call 41; exact Calls.later (H2.out _))))
  refine wpQuiet_nil ?_
  rintro w4 ⟨⟨_, hq⟩, rfl⟩
  have HB4 := Lib.hid (Below.then HB0.out hq (Nat.le_refl _))
  clear hq H1 H2 HB0 HBX HR a1 a2
  go_wp2
  go_ret2
  exact ⟨rfl, HB4.out⟩
theorem write_ba (a : Option Addr) (x y off : Int) (w : World) (h : Ba w a) :
    Calls Try.prog 22 #[.pointer a, .agg #[.int .i64 x, .int .i64 y], .int .i64 off, .slice none 0 0] w (NumE w 6) := by
  have hb0 : Below w.heap.size w (w.alloc (.cells #[.int .i64 x, .int .i64 y] 31)) := (Below.refl _ _).alloc (Nat.le_refl _) _
  have HBX := Lib.hid (Box.new (w := w) (x := x) (y := y))
  have HB0 := Lib.hid hb0
  have HR := Lib.hid (h.go hb0)
  clear h hb0
  go_enter Try.func22, Try.ntmps22
  go_wp2
  generalize w.alloc (.cells #[.int .i64 x, .int .i64 y] 31) = w1 at *
  have a1 : ∀ m : Later w1, m.val.cell? ⟨w.heap.size, 0, none⟩ = some (.int .i64 x) := fun m => later_old m HBX.out.cell0
  have a2 : ∀ m : Later w1, m.val.cell? ⟨w.heap.size, 1, none⟩ = some (.int .i64 y) := fun m => later_old m HBX.out.cell1
  have H1 := Lib.hid (fun m : Later w1 => HR.out.pa m.val m.2)
  have H2 := Lib.hid (fun m : Later w1 => has_nil x y m.val)
  refine wp_region_later (by kernel_rfl) (by kernel_rfl) ?_
  repeat (go_big_quiet_step (first | (go_at_call 40; exact Calls.later (H1.out _)) | (go_at_call 41; exact Calls.later (H2.out _))))
  refine wpQuiet_nil ?_
  rintro w4 ⟨⟨_, hq⟩, rfl⟩
  have HB4 := Lib.hid (Below.then HB0.out hq (Nat.le_refl _))
  clear hq H1 H2 HB0 HBX HR a1 a2
  go_wp2
  go_ret
  exact ⟨rfl, HB4.out⟩
theorem copy_ba (a : Option Addr) (x y to u v fr n : Int) (w : World) (h : Ba w a) :
    Calls Try.prog 20 #[.pointer a, .agg #[.int .i64 x, .int .i64 y], .int .i64 to, .agg #[.int .i64 u, .int .i64 v], .int .i64 fr, .int .i64 n] w (NumE w 6) := by
  have hb0 : Below w.heap.size w (w.alloc (.cells #[.int .i64 x, .int .i64 y] 31)) := (Below.refl _ _).alloc (Nat.le_refl _) _
  have HBX := Lib.hid (Box.new (w := w) (x := x) (y := y))
  have HB0 := Lib.hid hb0
  have HR := Lib.hid (h.go hb0)
  clear h hb0
  go_enter Try.func20, Try.ntmps20
  go_wp2
  have hz : (w.alloc (.cells #[.int .i64 x, .int .i64 y] 31)).heap.size = w.heap.size + 1 := by simp
  generalize w.alloc (.cells #[.int .i64 x, .int .i64 y] 31) = w0 at *
  have hb1 : Below w0.heap.size w0 (w0.alloc (.cells #[.int .i64 u, .int .i64 v] 31)) := (Below.refl _ _).alloc (Nat.le_refl _) _
  have HBY := Lib.hid (Box.new (w := w0) (x := u) (y := v))
  have HBX1 := Lib.hid (HBX.out.go hb1)
  have HB1 := Lib.hid (Below.then HB0.out hb1 (Nat.le_refl _))
  have HR1 := Lib.hid (HR.out.go hb1)
  clear hb1 HBX HB0 HR
  generalize w0.alloc (.cells #[.int .i64 u, .int .i64 v] 31) = w1 at *
  rw [hz] at HBY
  clear hz
  generalize w.heap.size + 1 = t at *
  have a1 : ∀ m : Later w1, m.val.cell? ⟨w.heap.size, 0, none⟩ = some (.int .i64 x) := fun m => later_old m HBX1.out.cell0
  have a2 : ∀ m : Later w1, m.val.cell? ⟨w.heap.size, 1, none⟩ = some (.int .i64 y) := fun m => later_old m HBX1.out.cell1
  have a3 : ∀ m : Later w1, m.val.cell? ⟨t, 0, none⟩ = some (.int .i64 u) := fun m => later_old m HBY.out.cell0
  have a4 : ∀ m : Later w1, m.val.cell? ⟨t, 1, none⟩ = some (.int .i64 v) := fun m => later_old m HBY.out.cell1
  have H1 := Lib.hid (fun m : Later w1 => HR1.out.pa m.val m.2)
  have H2 := Lib.hid (fun m : Later w1 => has_nil x y m.val)
  refine wp_region_later (by kernel_rfl) (by kernel_rfl) ?_
  repeat (go_big_quiet_step (first | (go_at_call 40; exact Calls.later (H1.out _)) | (go_at_call 41; exact Calls.later (H2.out _))))
  refine wpQuiet_nil ?_
  rintro w4 ⟨⟨_, hq⟩, rfl⟩
  have HB4 := Lib.hid (Below.then HB1.out hq (Nat.le_refl _))
  clear hq H1 H2 HB1 HBX1 HBY HR1 a1 a2 a3 a4
  go_wp2
  go_ret
  exact ⟨rfl, HB4.out⟩
end Go.Proofs.Ytfchccgajcjbbaa
