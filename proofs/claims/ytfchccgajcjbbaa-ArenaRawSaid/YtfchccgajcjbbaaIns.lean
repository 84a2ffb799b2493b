/-
  Contract of extents.Insert: what it returns is what the plain functions of the text Set say. Conditions: the numbers fit into 64 bits; the list has at most a million extents less ten.
-/
import Derived.Test.YtfchccgajcjbbaaCat
namespace Go.Proofs.Ytfchccgajcjbbaa
open Go.ChangeShapes Go.WideShapes Go.ChangeAt Go.RowKit
set_option maxHeartbeats 800000
set_option maxRecDepth 100000

/-- What a function says that returns a new list of extents and a number that tells of an error. -/
def ResE (w : World) (l : List (Int × Int)) (k : Int) (e : Ending) (w' : World) : Prop := ∃ v, e = .returned (.tuple #[v, .int .i64 k]) ∧ OwnE 31 w' w.heap.size v l ∧ Below w.heap.size w w'

/-- A block that holds one extent and may be written. -/
def Box (w : World) (b : Nat) (x y : Int) : Prop := w.heap[b]? = some (.cells #[.int .i64 x, .int .i64 y] 31 (0, 0))
section
variable {w w' : World} {b B : Nat} {x y : Int}
theorem Box.lt (h : Box w b x y) : b < w.heap.size := (Array.getElem?_eq_some_iff.1 h).1
theorem Box.new : Box (w.alloc (.cells #[.int .i64 x, .int .i64 y] 31)) w.heap.size x y := heap_alloc_new w _
theorem Box.below (h : Box w b x y) (hb : Below B w w') (hB : b < B) : Box w' b x y := (hb.block b hB).trans h
theorem Box.go (h : Box w b x y) (hb : Below w.heap.size w w') : Box w' b x y := h.below hb h.lt
theorem Box.cell0 (h : Box w b x y) : w.cell? ⟨b, 0, none⟩ = some (.int .i64 x) := cell_of_row w b 0 _ _ _ h
theorem Box.cell1 (h : Box w b x y) : w.cell? ⟨b, 1, none⟩ = some (.int .i64 y) := cell_of_row w b 1 _ _ _ h
theorem Box.fr0 (h : Box w b x y) : w.frozen? ⟨b, 0, none⟩ = false := frozen_of_row w b 0 _ _ h
theorem Box.fr1 (h : Box w b x y) : w.frozen? ⟨b, 1, none⟩ = false := frozen_of_row w b 1 _ _ h
theorem Box.set (h : Box w b x y) (x' y' : Int) : Box ((w.setCell ⟨b, 0, none⟩ (.int .i64 x')).setCell ⟨b, 1, none⟩ (.int .i64 y')) b x' y' :=
  heap_setCell_same _ b 1 _ _ _ (heap_setCell_same w b 0 _ _ _ h)
end
/-- Slice expressions, with the address under a name. -/
theorem cut_hi (A : Option Addr) (n c : Nat) (l : List (Int × Int)) (k : Nat) (hk : k ≤ n) (hc : n ≤ c) :
    ∃ A', (∀ wx : World, (Instr.slice 34 (.slice A n c) none (some (.int .i64 (k : Int))) none).run Try.prog wx = .ok (.slice A' k c) wx) ∧ ∀ (w : World) (B : Nat), Exs w B A n c l → Exs w B A' k c (l.take k) := by
  refine ⟨if c = 0 then A else A.map (·.add (0 * 2)), fun wx => ?_, fun w B h => ?_⟩
  · rw [run_slice_h (P := Try.prog) wx 34 A n c Try.underlying34 .i64 (k : Int) (by omega) (by omega)]
    simp [sliced, go_sem]
  · have h1 := (h.drop (k := 0) (by omega)).take (k := k) (by omega)
    simpa using h1
theorem cut_lo (A : Option Addr) (n c : Nat) (l : List (Int × Int)) (k : Nat) (hk : k ≤ n) :
    ∃ A', (∀ wx : World, (Instr.slice 34 (.slice A n c) (some (.int .i64 (k : Int))) none none).run Try.prog wx = .ok (.slice A' (n - k) (c - k)) wx) ∧ ∀ (w : World) (B : Nat), Exs w B A n c l → Exs w B A' (n - k) (c - k) (l.drop k) := by
  refine ⟨if c = k then A else A.map (·.add (k * 2)), fun wx => ?_, fun w B h => h.drop hk⟩
  rw [run_slice_l (P := Try.prog) wx 34 A n c Try.underlying34 .i64 (k : Int) (by omega) (by omega)]
  simp [sliced, go_sem]
theorem insert_arg (A : Option Addr) (n c : Nat) (l : List (Int × Int)) (x y : Int) (w : World) (h : Exs w w.heap.size A n c l) (hn : n ≤ 999990)
    (x0 : -9223372036854775808 ≤ x) (x1 : x ≤ 9223372036854775807) (y0 : -9223372036854775808 ≤ y) (y1 : y ≤ 9223372036854775807) (hbad : ¬ Va (-1) l ∨ ¬ Pr x y) :
    Calls Try.prog 60 #[.slice A n c, .agg #[.int .i64 x, .int .i64 y]] w (ResE w [] 1) := by
  have hb0 : Below w.heap.size w (w.alloc (.cells #[.int .i64 x, .int .i64 y] 31)) := (Below.refl _ _).alloc (Nat.le_refl _) _
  have H := Lib.hid (valid_any A n c l _ (h.go hb0) (by omega))
  have HB0 := Lib.hid hb0
  clear hb0 h
  by_cases hv : Va (-1) l
  · have hp : ¬ Pr x y := by
      rcases hbad with h | h
      · exact absurd hv h
      · exact h
    have HP := Lib.hid hp
    rw [vaB_yes hv] at H
    clear hbad hv hp
    go_enter Try.func60, Try.ntmps60
    go_wp2_with fail
    refine H.out.mono ?_
    rintro e w1 ⟨rfl, hb1⟩
    clear H
    have f0 : w1.cell? ⟨w.heap.size, 0, none⟩ = some (.int .i64 x) := (hb1.cell (p := ⟨w.heap.size, 0, none⟩) (by simp)).trans (cell_alloc rfl)
    have f1 : w1.cell? ⟨w.heap.size, 1, none⟩ = some (.int .i64 y) := (hb1.cell (p := ⟨w.heap.size, 1, none⟩) (by simp)).trans (cell_alloc rfl)
    have HB1 := Lib.hid (Below.then HB0.out hb1 (Nat.le_refl _))
    clear hb1
    go_wp2_with fail
    refine (proper_no x y _ HP.out x0 x1 y0 y1).mono ?_
    rintro e w2 ⟨rfl, hb2⟩
    go_wp2
    go_ret2
    exact ⟨_, rfl, OwnE.nil _ _ _, Below.then HB1.out hb2 (Nat.le_refl _)⟩
  · rw [vaB_no hv] at H
    clear hbad hv
    go_enter Try.func60, Try.ntmps60
    go_wp2_with fail
    refine H.out.mono ?_
    rintro e w1 ⟨rfl, hb1⟩
    clear H
    go_wp2
    go_ret2
    exact ⟨_, rfl, OwnE.nil _ _ _, Below.then HB0.out hb1 (Nat.le_refl _)⟩

theorem insert_over (A : Option Addr) (n c : Nat) (l : List (Int × Int)) (x y : Int) (w : World) (h : Exs w w.heap.size A n c l) (hn : n ≤ 999990) (hv : Va (-1) l) (hp : Pr x y) (hf : ¬ Free l (x, y)) :
    Calls Try.prog 60 #[.slice A n c, .agg #[.int .i64 x, .int .i64 y]] w (ResE w [] 5) := by
  have hb0 : Below w.heap.size w (w.alloc (.cells #[.int .i64 x, .int .i64 y] 31)) := (Below.refl _ _).alloc (Nat.le_refl _) _
  have H := Lib.hid (valid_any A n c l _ (h.go hb0) (by omega))
  rw [vaB_yes hv] at H
  have HB0 := Lib.hid hb0
  have HX := Lib.hid h
  have HV := Lib.hid hv
  have HP := Lib.hid hp
  have HF := Lib.hid hf
  have hcap := h.cap
  have hsm := h.small
  unfold maxLen at hsm
  obtain ⟨p1, p2, p3⟩ := hp
  clear hb0 h hv hf
  go_enter Try.func60, Try.ntmps60
  go_wp2_with fail
  refine H.out.mono ?_
  rintro e w1 ⟨rfl, hb1⟩
  clear H
  have f0 : w1.cell? ⟨w.heap.size, 0, none⟩ = some (.int .i64 x) := (hb1.cell (p := ⟨w.heap.size, 0, none⟩) (by simp)).trans (cell_alloc rfl)
  have f1 : w1.cell? ⟨w.heap.size, 1, none⟩ = some (.int .i64 y) := (hb1.cell (p := ⟨w.heap.size, 1, none⟩) (by simp)).trans (cell_alloc rfl)
  have HB1 := Lib.hid (Below.then HB0.out hb1 (Nat.le_refl _))
  clear hb1
  go_wp2_with fail
  refine (proper_yes x y _ HP.out).mono ?_
  rintro e w2 ⟨rfl, hb2⟩
  have g0 : w2.cell? ⟨w.heap.size, 0, none⟩ = some (.int .i64 x) := (hb2.cell (p := ⟨w.heap.size, 0, none⟩) (lt_of_some f0)).trans f0
  have g1 : w2.cell? ⟨w.heap.size, 1, none⟩ = some (.int .i64 y) := (hb2.cell (p := ⟨w.heap.size, 1, none⟩) (lt_of_some f1)).trans f1
  have HB2 := Lib.hid (Below.then HB1.out hb2 (Nat.le_refl _))
  clear hb2 f0 f1
  go_wp2_with fail
  refine (find_any A n c l x w2 (HX.out.go HB2.out) (by omega) HV.out).mono ?_
  rintro e w3 ⟨i, rfl, hi, hb3⟩
  have k0 : w3.cell? ⟨w.heap.size, 0, none⟩ = some (.int .i64 x) := (hb3.cell (p := ⟨w.heap.size, 0, none⟩) (lt_of_some g0)).trans g0
  have k1 : w3.cell? ⟨w.heap.size, 1, none⟩ = some (.int .i64 y) := (hb3.cell (p := ⟨w.heap.size, 1, none⟩) (lt_of_some g1)).trans g1
  have HB3 := Lib.hid (Below.then HB2.out hb3 (Nat.le_refl _))
  have HI := Lib.hid hi
  clear hb3 g0 g1 hi
  have hin : i < n := by
    refine Nat.lt_of_not_le fun hle => HF.out (free_at HV.out HI.out fun z hz => ?_)
    have := (List.getElem?_eq_some_iff.1 hz).1
    have := HX.out.len
    omega
  obtain ⟨b, o, x', y', hx', rfl, hb, hc1, hc2, x0', x1', y0', y1'⟩ := (HX.out.below HB3.out).at_ hin
  have hlt : x' < x + y := by
    refine Int.lt_of_not_ge fun hge => HF.out (free_at HV.out HI.out fun z hz => ?_)
    rw [hx'] at hz
    obtain rfl := Option.some.inj hz
    exact hge
  clear hx'
  have hi1 : (i : Int) < (n : Int) := by omega
  have d0 : ∀ m : Later w3, m.val.cell? ⟨w.heap.size, 0, none⟩ = some (.int .i64 x) := fun m => later_old m k0
  have d1 : ∀ m : Later w3, m.val.cell? ⟨w.heap.size, 1, none⟩ = some (.int .i64 y) := fun m => later_old m k1
  have d2 : ∀ m : Later w3, m.val.cell? ⟨b, o + i * 2, none⟩ = some (.int .i64 x') := fun m => later_old m hc1
  go_wp2
  refine wp_region_later (by kernel_rfl) (by kernel_rfl) ?_
  repeat (go_big_quiet_step ((go_at_call 77; exact Calls.later (end_any x y _ HP.out))))
  refine wpQuiet_nil ?_
  rintro _ ⟨⟨wq, hq⟩, rfl⟩
  go_wp2
  go_ret2
  exact ⟨_, rfl, OwnE.nil _ _ _, Below.then HB3.out hq (Nat.le_refl _)⟩
end Go.Proofs.Ytfchccgajcjbbaa
