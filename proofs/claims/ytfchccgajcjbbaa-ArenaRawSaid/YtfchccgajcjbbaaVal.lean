/-
  Contracts of the two tests of validity, of package extents and of the reference. Conditions: the lists have at most a million extents.
-/
import Derived.Test.YtfchccgajcjbbaaExt
import Derived.Test.YtfchccgajcjbbaaLater
import Derived.Deep.RegionWith
import Derived.Deep.RegionHeld3
namespace Go.Proofs.Ytfchccgajcjbbaa
open Go.ChangeShapes Go.WideShapes Go.ChangeAt Go.RowKit
set_option maxHeartbeats 400000
set_option maxRecDepth 100000

open Classical in
/-- Whether a list is valid. -/
noncomputable def vaB (l : List (Int × Int)) : Bool := decide (Va (-1) l)
theorem vaB_yes {l : List (Int × Int)} (h : Va (-1) l) : vaB l = true := by simp [vaB, h]
theorem vaB_no {l : List (Int × Int)} (h : ¬ Va (-1) l) : vaB l = false := by simp [vaB, h]
theorem vaB_iff {l : List (Int × Int)} : vaB l = true ↔ Va (-1) l := by simp [vaB]
/-- The extent before is proper, and ends where the list so far ends. -/
theorem va_prev {l : List (Int × Int)} {k : Nat} (h : Va (-1) (l.take k)) (hk : 0 < k) (hkl : k ≤ l.length) {x : Int × Int} (hx : l[k - 1]? = some x) : Pr x.1 x.2 ∧ lst (-1) (l.take k) = x.1 + x.2 := by
  obtain ⟨j, rfl⟩ : ∃ j, k = j + 1 := ⟨k - 1, by omega⟩
  simp only [Nat.add_sub_cancel] at hx
  refine ⟨?_, lst_take hx _⟩
  exact (va_pr h x (List.mem_of_getElem? (i := j) (by rw [List.getElem?_take, if_pos (by omega)]; exact hx))).2
theorem bcell {W w1 : World} (hb : Below W.heap.size W w1) : (∀ b o, b < W.heap.size → w1.cell? ⟨b, o, none⟩ = W.cell? ⟨b, o, none⟩) ∧ (∀ b o, b < W.heap.size → w1.frozen? ⟨b, o, none⟩ = W.frozen? ⟨b, o, none⟩) :=
  ⟨fun b o h => hb.cell (p := ⟨b, o, none⟩) h, fun b o h => hb.frozen (p := ⟨b, o, none⟩) h⟩

theorem valid_any (A : Option Addr) (n c : Nat) (l : List (Int × Int)) (w : World) (h : Exs w w.heap.size A n c l) (hn : n ≤ 1000000) :
    Calls Try.prog 75 #[.slice A n c] w (Tell w (vaB l)) := by
  have HB := Lib.hid h
  have hcap := h.cap
  have hsm := h.small
  unfold maxLen at hsm
  clear h
  go_enter Try.func75, Try.ntmps75
  go_wp2
  go_loopw [7] (fun i wr => ∃ (k : Nat), k ≤ n ∧ i = .int .i64 k ∧ Hid (Va (-1) (l.take k) ∧ Below w.heap.size w wr)) (fun i _ => n - (intOf i).toNat)
  case atStart => exact ⟨0, by omega, rfl, Lib.hid ⟨trivial, Below.refl _ _⟩⟩
  case round =>
    obtain ⟨k, hk, rfl, hh⟩ := hrel
    by_cases hlt : k < n
    · obtain ⟨b, o, x, y, hx, rfl, hb, hc1, hc2, x0, x1, y0, y1⟩ := (HB.out.below hh.out.2).at_ hlt
      have HX := Lib.hid hx
      clear hx
      have hlt' : (k : Int) < (n : Int) := by omega
      by_cases hp : Pr x y
      · by_cases hk0 : 0 < k
        · obtain ⟨b', o', x', y', hx', e', hb', hc1', hc2', x0', x1', y0', y1'⟩ := (HB.out.below hh.out.2).at_ (k := k - 1) (by omega)
          obtain ⟨rfl, rfl⟩ : b = b' ∧ o = o' := by simpa using e'
          clear e'
          have hpv := va_prev hh.out.1 hk0 (by have := HB.out.len; omega) hx'
          have HQ := Lib.hid hpv
          have HP := Lib.hid hp
          have hi1 : (0 : Int) < (k : Int) := by omega
          have hi2 : ((k : Int) - 1).toNat = k - 1 := by omega
          have hi3 : (0 : Int) ≤ (k : Int) - 1 := by omega
          have hi4 : (k : Int) - 1 < (n : Int) := by omega
          have q1 := hpv.1
          obtain ⟨p1, p2, p3⟩ := q1
          simp only at p1 p2 p3
          clear hpv hx' hp
          by_cases hle : x ≤ x' + y'
          · have HV : Hid (¬ Va (-1) l) := Lib.hid (va_not2 HX.out (by rw [HQ.out.2]; exact hle))
            go_wp2
            generalize hW : wr.alloc (.cells #[.int .i64 x, .int .i64 y] 31) = W
            have HW : Hid (Below w.heap.size w W) := Lib.hid (by rw [← hW]; exact hh.out.2.alloc hh.out.2.size _)
            have f0 : ∀ m : Later W, m.val.cell? ⟨wr.heap.size, 0, none⟩ = some (.int .i64 x) := fun m => later_old m (by rw [← hW]; exact cell_alloc rfl)
            have f1 : ∀ m : Later W, m.val.cell? ⟨wr.heap.size, 1, none⟩ = some (.int .i64 y) := fun m => later_old m (by rw [← hW]; exact cell_alloc rfl)
            have f2 : ∀ m : Later W, m.val.cell? ⟨b, o + (k - 1) * 2, none⟩ = some (.int .i64 x') := fun m => later_old m (by rw [← hW]; exact cell_under hc1' _)
            have f3 : ∀ m : Later W, m.val.cell? ⟨b, o + (k - 1) * 2 + 1, none⟩ = some (.int .i64 y') := fun m => later_old m (by rw [← hW]; exact cell_under hc2' _)
            clear hW
            refine wp_region_later (by kernel_rfl) (by kernel_rfl) ?_
            repeat (go_big_quiet_step (first | (go_at_call 78; exact Calls.later (proper_yes x y _ HP.out)) | (go_at_call 77; exact Calls.later (end_any x' y' _ HQ.out.1))))
            refine wpQuiet_nil ?_
            rintro _ ⟨⟨wq, hq⟩, rfl⟩
            go_wp2
            go_ret
            exact ⟨by rw [vaB_no HV.out]; rfl, Below.then HW.out hq (by have := HW.out.size; omega)⟩
          · have HV : Hid (Va (-1) (l.take (k + 1))) := Lib.hid (va_step hh.out.1 HX.out HP.out (.inr (by rw [HQ.out.2]; simp only; omega)))
            go_wp2
            generalize hW : wr.alloc (.cells #[.int .i64 x, .int .i64 y] 31) = W
            have HW : Hid (Below w.heap.size w W) := Lib.hid (by rw [← hW]; exact hh.out.2.alloc hh.out.2.size _)
            have f0 : ∀ m : Later W, m.val.cell? ⟨wr.heap.size, 0, none⟩ = some (.int .i64 x) := fun m => later_old m (by rw [← hW]; exact cell_alloc rfl)
            have f1 : ∀ m : Later W, m.val.cell? ⟨wr.heap.size, 1, none⟩ = some (.int .i64 y) := fun m => later_old m (by rw [← hW]; exact cell_alloc rfl)
            have f2 : ∀ m : Later W, m.val.cell? ⟨b, o + (k - 1) * 2, none⟩ = some (.int .i64 x') := fun m => later_old m (by rw [← hW]; exact cell_under hc1' _)
            have f3 : ∀ m : Later W, m.val.cell? ⟨b, o + (k - 1) * 2 + 1, none⟩ = some (.int .i64 y') := fun m => later_old m (by rw [← hW]; exact cell_under hc2' _)
            clear hW
            refine wp_region_later (by kernel_rfl) (by kernel_rfl) ?_
            repeat (go_big_quiet_step (first | (go_at_call 78; exact Calls.later (proper_yes x y _ HP.out)) | (go_at_call 77; exact Calls.later (end_any x' y' _ HQ.out.1))))
            refine wpQuiet_nil ?_
            rintro _ ⟨⟨wq, hq⟩, rfl⟩
            go_wp2
            go_roundw
            case rel => exact ⟨k + 1, by omega, by go_num, Lib.hid ⟨HV.out, Below.then HW.out hq (by have := HW.out.size; omega)⟩⟩
            case measure => simp [intOf]; omega
        · have HV : Hid (Va (-1) (l.take (k + 1))) := Lib.hid (va_step hh.out.1 HX.out hp (.inl (by omega)))
          have hg : decide ((0 : Int) < (k : Int)) = false := decide_eq_false (by omega)
          have HP := Lib.hid hp
          clear hp
          go_wp2
          generalize hW : wr.alloc (.cells #[.int .i64 x, .int .i64 y] 31) = W
          have HW : Hid (Below w.heap.size w W) := Lib.hid (by rw [← hW]; exact hh.out.2.alloc hh.out.2.size _)
          have f0 : ∀ m : Later W, m.val.cell? ⟨wr.heap.size, 0, none⟩ = some (.int .i64 x) := fun m => later_old m (by rw [← hW]; exact cell_alloc rfl)
          have f1 : ∀ m : Later W, m.val.cell? ⟨wr.heap.size, 1, none⟩ = some (.int .i64 y) := fun m => later_old m (by rw [← hW]; exact cell_alloc rfl)
          clear hW
          refine wp_region_later (by kernel_rfl) (by kernel_rfl) ?_
          repeat (go_big_quiet_step ((go_at_call 78; exact Calls.later (proper_yes x y _ HP.out))))
          refine wpQuiet_nil ?_
          rintro _ ⟨⟨wq, hq⟩, rfl⟩
          go_wp2
          go_roundw
          case rel => exact ⟨k + 1, by omega, by go_num, Lib.hid ⟨HV.out, Below.then HW.out hq (by have := HW.out.size; omega)⟩⟩
          case measure => simp [intOf]; omega
      · have HV : Hid (¬ Va (-1) l) := Lib.hid (va_not1 HX.out hp)
        have HP := Lib.hid hp
        clear hp
        go_wp2
        generalize hW : wr.alloc (.cells #[.int .i64 x, .int .i64 y] 31) = W
        have HW : Hid (Below w.heap.size w W) := Lib.hid (by rw [← hW]; exact hh.out.2.alloc hh.out.2.size _)
        have f0 : ∀ m : Later W, m.val.cell? ⟨wr.heap.size, 0, none⟩ = some (.int .i64 x) := fun m => later_old m (by rw [← hW]; exact cell_alloc rfl)
        have f1 : ∀ m : Later W, m.val.cell? ⟨wr.heap.size, 1, none⟩ = some (.int .i64 y) := fun m => later_old m (by rw [← hW]; exact cell_alloc rfl)
        clear hW
        refine wp_region_later (by kernel_rfl) (by kernel_rfl) ?_
        repeat (go_big_quiet_step ((go_at_call 78; exact Calls.later (proper_no x y _ HP.out x0 x1 y0 y1))))
        refine wpQuiet_nil ?_
        rintro _ ⟨⟨wq, hq⟩, rfl⟩
        go_wp2
        go_ret
        exact ⟨by rw [vaB_no HV.out]; rfl, Below.then HW.out hq (by have := HW.out.size; omega)⟩
    · obtain rfl : k = n := by omega
      have HE : Hid (Va (-1) l) := Lib.hid (by have := hh.out.1; rwa [List.take_of_length_le (by have := HB.out.len; omega)] at this)
      go_wp2
      go_ret
      exact ⟨by rw [vaB_yes HE.out]; rfl, hh.out.2⟩

theorem validR_any (A : Option Addr) (n c : Nat) (l : List (Int × Int)) (w : World) (h : Exs w w.heap.size A n c l) (hn : n ≤ 1000000) :
    Calls Try.prog 69 #[.slice A n c] w (Tell w (vaB l)) := by
  have HB := Lib.hid h
  have hcap := h.cap
  have hsm := h.small
  unfold maxLen at hsm
  clear h
  go_enter Try.func69, Try.ntmps69
  go_wp2
  go_loopw [3] (fun i wr => ∃ (k : Nat), k ≤ n ∧ i = .int .i64 k ∧ Hid (Va (-1) (l.take k) ∧ Below w.heap.size w wr)) (fun i _ => n - (intOf i).toNat)
  case atStart => exact ⟨0, by omega, rfl, Lib.hid ⟨trivial, Below.refl _ _⟩⟩
  case round =>
    obtain ⟨k, hk, rfl, hh⟩ := hrel
    by_cases hlt : k < n
    · obtain ⟨b, o, x, y, hx, rfl, hb, hc1, hc2, x0, x1, y0, y1⟩ := (HB.out.below hh.out.2).at_ hlt
      have HX := Lib.hid hx
      clear hx
      have hlt' : (k : Int) < (n : Int) := by omega
      by_cases hp : Pr x y
      · by_cases hk0 : 0 < k
        · obtain ⟨b', o', x', y', hx', e', hb', hc1', hc2', x0', x1', y0', y1'⟩ := (HB.out.below hh.out.2).at_ (k := k - 1) (by omega)
          obtain ⟨rfl, rfl⟩ : b = b' ∧ o = o' := by simpa using e'
          clear e'
          have hpv := va_prev hh.out.1 hk0 (by have := HB.out.len; omega) hx'
          have HQ := Lib.hid hpv
          have HP := Lib.hid hp
          have hi1 : (0 : Int) < (k : Int) := by omega
          have hi2 : ((k : Int) - 1).toNat = k - 1 := by omega
          have hi3 : (0 : Int) ≤ (k : Int) - 1 := by omega
          have hi4 : (k : Int) - 1 < (n : Int) := by omega
          have q1 := hpv.1
          obtain ⟨p1, p2, p3⟩ := q1
          simp only at p1 p2 p3
          clear hpv hx' hp
          by_cases hle : x ≤ x' + y'
          · have HV : Hid (¬ Va (-1) l) := Lib.hid (va_not2 HX.out (by rw [HQ.out.2]; exact hle))
            have f0 : ∀ m : Later wr, m.val.cell? ⟨b, o + k * 2, none⟩ = some (.int .i64 x) := fun m => later_old m hc1
            have f1 : ∀ m : Later wr, m.val.cell? ⟨b, o + k * 2 + 1, none⟩ = some (.int .i64 y) := fun m => later_old m hc2
            have f2 : ∀ m : Later wr, m.val.cell? ⟨b, o + (k - 1) * 2, none⟩ = some (.int .i64 x') := fun m => later_old m hc1'
            have f3 : ∀ m : Later wr, m.val.cell? ⟨b, o + (k - 1) * 2 + 1, none⟩ = some (.int .i64 y') := fun m => later_old m hc2'
            go_wp2
            refine wp_region_later (by kernel_rfl) (by kernel_rfl) ?_
            repeat (go_big_quiet_step ((go_at_call 70; exact Calls.later (properR_yes x y _ HP.out))))
            refine wpQuiet_nil ?_
            rintro _ ⟨⟨wq, hq⟩, rfl⟩
            go_wp2
            go_ret
            exact ⟨by rw [vaB_no HV.out]; rfl, Below.then hh.out.2 hq (by have := hh.out.2.size; omega)⟩
          · have HV : Hid (Va (-1) (l.take (k + 1))) := Lib.hid (va_step hh.out.1 HX.out HP.out (.inr (by rw [HQ.out.2]; simp only; omega)))
            have f0 : ∀ m : Later wr, m.val.cell? ⟨b, o + k * 2, none⟩ = some (.int .i64 x) := fun m => later_old m hc1
            have f1 : ∀ m : Later wr, m.val.cell? ⟨b, o + k * 2 + 1, none⟩ = some (.int .i64 y) := fun m => later_old m hc2
            have f2 : ∀ m : Later wr, m.val.cell? ⟨b, o + (k - 1) * 2, none⟩ = some (.int .i64 x') := fun m => later_old m hc1'
            have f3 : ∀ m : Later wr, m.val.cell? ⟨b, o + (k - 1) * 2 + 1, none⟩ = some (.int .i64 y') := fun m => later_old m hc2'
            go_wp2
            refine wp_region_later (by kernel_rfl) (by kernel_rfl) ?_
            repeat (go_big_quiet_step ((go_at_call 70; exact Calls.later (properR_yes x y _ HP.out))))
            refine wpQuiet_nil ?_
            rintro _ ⟨⟨wq, hq⟩, rfl⟩
            go_wp2
            go_roundw
            case rel => exact ⟨k + 1, by omega, by go_num, Lib.hid ⟨HV.out, Below.then hh.out.2 hq (by have := hh.out.2.size; omega)⟩⟩
            case measure => simp [intOf]; omega
        · have HV : Hid (Va (-1) (l.take (k + 1))) := Lib.hid (va_step hh.out.1 HX.out hp (.inl (by omega)))
          have hg : decide ((0 : Int) < (k : Int)) = false := decide_eq_false (by omega)
          have HP := Lib.hid hp
          clear hp
          have f0 : ∀ m : Later wr, m.val.cell? ⟨b, o + k * 2, none⟩ = some (.int .i64 x) := fun m => later_old m hc1
          have f1 : ∀ m : Later wr, m.val.cell? ⟨b, o + k * 2 + 1, none⟩ = some (.int .i64 y) := fun m => later_old m hc2
          go_wp2
          refine wp_region_later (by kernel_rfl) (by kernel_rfl) ?_
          repeat (go_big_quiet_step ((go_at_call 70; exact Calls.later (properR_yes x y _ HP.out))))
          refine wpQuiet_nil ?_
          rintro _ ⟨⟨wq, hq⟩, rfl⟩
          go_wp2
          go_roundw
          case rel => exact ⟨k + 1, by omega, by go_num, Lib.hid ⟨HV.out, Below.then hh.out.2 hq (by have := hh.out.2.size; omega)⟩⟩
          case measure => simp [intOf]; omega
      · have HV : Hid (¬ Va (-1) l) := Lib.hid (va_not1 HX.out hp)
        have HP := Lib.hid hp
        clear hp
        have f0 : ∀ m : Later wr, m.val.cell? ⟨b, o + k * 2, none⟩ = some (.int .i64 x) := fun m => later_old m hc1
        have f1 : ∀ m : Later wr, m.val.cell? ⟨b, o + k * 2 + 1, none⟩ = some (.int .i64 y) := fun m => later_old m hc2
        go_wp2
        refine wp_region_later (by kernel_rfl) (by kernel_rfl) ?_
        repeat (go_big_quiet_step ((go_at_call 70; exact Calls.later (properR_no x y _ HP.out x0 x1 y0 y1))))
        refine wpQuiet_nil ?_
        rintro _ ⟨⟨wq, hq⟩, rfl⟩
        go_wp2
        go_ret
        exact ⟨by rw [vaB_no HV.out]; rfl, Below.then hh.out.2 hq (by have := hh.out.2.size; omega)⟩
    · obtain rfl : k = n := by omega
      have HE : Hid (Va (-1) l) := Lib.hid (by have := hh.out.1; rwa [List.take_of_length_le (by have := HB.out.len; omega)] at this)
      go_wp2
      go_ret
      exact ⟨by rw [vaB_yes HE.out]; rfl, hh.out.2⟩
end Go.Proofs.Ytfchccgajcjbbaa
