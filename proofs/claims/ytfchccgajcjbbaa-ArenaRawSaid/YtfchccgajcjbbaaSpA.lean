/-
  Contract of the laws' step of layer 7, where it allocates. Conditions: at most eight hundred extents.
-/
import Derived.Test.YtfchccgajcjbbaaSrt
namespace Go.Proofs.Ytfchccgajcjbbaa
open Go.ChangeShapes Go.WideShapes Go.ChangeAt Go.RowKit
set_option maxHeartbeats 8000000
set_option maxRecDepth 100000

theorem step_alloc0 (x0 x1 x2 x3 x4 x5 : Int) (w : World) (c : Nat → Nat) (a p g q g2 : Nat) (F A U : List (Int × Int)) (bs : List Int) (h : Sr w c a p g q g2 F A U bs) (hU : U.length ≤ 800) (hx : ∀ x ∈ [x0, x1, x2, x3, x4, x5], 0 ≤ x ∧ x ≤ 255) (h9 : x0 % 9 = 0) :
    Calls Try.prog 33 #[.pointer (some ⟨a, 0, none⟩), .pointer (some ⟨q, 0, none⟩), .agg #[.int .u8 x0, .int .u8 x1, .int .u8 x2, .int .u8 x3, .int .u8 x4, .int .u8 x5]] w (StE w c a p g q g2 U bs.length) := by
  obtain ⟨l0, u0⟩ := hx x0 (by simp)
  obtain ⟨l1, u1⟩ := hx x1 (by simp)
  obtain ⟨l2, u2⟩ := hx x2 (by simp)
  obtain ⟨l3, u3⟩ := hx x3 (by simp)
  obtain ⟨l4, u4⟩ := hx x4 (by simp)
  obtain ⟨l5, u5⟩ := hx x5 (by simp)
  have hb0 : Below w.heap.size w (w.alloc (.cells #[.int .u8 x0, .int .u8 x1, .int .u8 x2, .int .u8 x3, .int .u8 x4, .int .u8 x5] 67)) := (Below.refl _ _).alloc (Nat.le_refl _) _
  have HX : Hid (Six (w.alloc (.cells #[.int .u8 x0, .int .u8 x1, .int .u8 x2, .int .u8 x3, .int .u8 x4, .int .u8 x5] 67)) w.heap.size [x0, x1, x2, x3, x4, x5]) := Lib.hid (heap_alloc_new w _)
  have HB0 := Lib.hid hb0
  have HS := Lib.hid ((h.recol (c' := rc c w.heap.size 9) (fun _ hx => rc_old hx)).go hb0)
  have HC0 : Hid ((∀ z, z < w.heap.size → rc c w.heap.size 9 z = c z) ∧ ∀ z, w.heap.size ≤ z → rc c w.heap.size 9 z = 9) := Lib.hid ⟨fun _ hx => rc_old hx, fun _ hx => rc_new hx⟩
  have hAU := h.len
  have HI := Lib.hid h.ins
  have hsm := h.ar.small
  have hqlt := h.mr.lt
  generalize rc c w.heap.size 9 = c0 at *
  clear h hb0 hx
  go_enter Try.func33, Try.ntmps33
  go_wp2_with fail
  generalize w.alloc (.cells #[.int .u8 x0, .int .u8 x1, .int .u8 x2, .int .u8 x3, .int .u8 x4, .int .u8 x5] 67) = w1 at *
  refine (extent_any c0 q g2 U bs x1 x2 w1 HS.out.mr HI.out (by omega) ⟨l1, u1⟩ ⟨l2, u2⟩).mono ?_
  rintro e w2 ⟨x, y, rfl, ⟨bx0, bx1⟩, ⟨by0, by1⟩, hb⟩
  have hb2 : Below w1.heap.size w1 (w2.alloc (.cells #[.int .i64 x, .int .i64 y] 31)) := hb.alloc hb.size _
  have HE3 := Lib.hid (Box.new (w := w2) (x := x) (y := y))
  have HX3 := Lib.hid (HX.out.go hb2)
  have HB3 := Lib.hid (Below.then HB0.out hb2 (Nat.le_refl _))
  have HS3 := Lib.hid (HS.out.go hb2)
  have hw2 : w.heap.size ≤ w2.heap.size := Nat.le_trans HB0.out.size hb.size
  clear hb hb2 HX HS HB0
  have z3 := HX3.out.cell (i := 3) rfl
  go_wp2_with fail
  generalize w2.alloc (.cells #[.int .i64 x, .int .i64 y] 31) = w3 at *
  generalize ht : w2.heap.size = t at *
  clear ht w2
  clear z3
  refine (off_any x3 w3 ⟨l3, u3⟩).mono ?_
  rintro e w4 ⟨rfl, hb⟩
  have HE4 := Lib.hid (HE3.out.go hb)
  have HX4 := Lib.hid (HX3.out.go hb)
  have HB4 := Lib.hid (Below.then HB3.out hb (Nat.le_refl _))
  have HS4 := Lib.hid (HS3.out.go hb)
  clear hb HE3 HX3 HB3 HS3
  have hk : -9 ≤ offV x3 ∧ offV x3 ≤ 23 := by unfold offV; omega
  obtain ⟨k0, k1⟩ := hk
  generalize offV x3 = k at *
  have z0 := HX4.out.cell (i := 0) rfl
  have z4 := HX4.out.cell (i := 4) rfl
  have z5 := HX4.out.cell (i := 5) rfl
  have hb4 : w.heap.size ≤ w4.heap.size := HB4.out.size
  have z1 := HX4.out.cell (i := 1) rfl
  have z2 := HX4.out.cell (i := 2) rfl
  have hn : -1 ≤ x1 % 40 - x2 / 250 ∧ x1 % 40 - x2 / 250 ≤ 39 := by omega
  have HN := Lib.hid hn
  clear hn
  go_wp2_with fail
  clear z0 z1 z2 z4 z5 HE4 HX4
  generalize x1 % 40 - x2 / 250 = n at *
  refine ((Pos.start HS4.out (Below.refl _ _)).run_af (fun c' h' => allocA_any c' a p g F A U bs n w4 h' HS4.out.gd (by omega) HS4.out.pm)).mono ?_
  rintro e w5 ⟨rfl, F', A', hP, hg', hp', hm'⟩
  obtain ⟨c5, ha5, hm5, hk5, hc5, hn5⟩ := hP.ex
  have HG' := Lib.hid hg'
  have HM' := Lib.hid hm'
  generalize hr : chR F n = r at *
  have HR := Lib.hid hr
  obtain ⟨⟨u, v⟩, r2⟩ := r
  have HP' := Lib.hid hp'
  simp only [rV]
  have hb6 : Below w5.heap.size w5 (w5.alloc (.cells #[.int .i64 u, .int .i64 v] 31)) := (Below.refl _ _).alloc (Nat.le_refl _) _
  have HU6 := Lib.hid (Box.new (w := w5) (x := u) (y := v))
  have HA6 := Lib.hid (ha5.go hb6)
  have HM6 := Lib.hid (hm5.go hb6)
  have HK6 := Lib.hid (hk5.trans (KS.ofBelow (c := c5) hb6) hc5)
  have HC5 := Lib.hid hc5
  have h95 : c5 w5.heap.size = 9 := hn5 _ (Nat.le_refl _)
  have hw45 : w4.heap.size ≤ w5.heap.size := hk5.size
  clear hr hg' hp' hm' hP ha5 hm5 hk5 hb6 hc5 hn5
  go_wp2_with fail
  generalize w5.alloc (.cells #[.int .i64 u, .int .i64 v] 31) = w6 at *
  generalize hs5 : w5.heap.size = s5 at *
  clear hs5
  have HUL : Hid ((alU U ((u, v), r2)).length ≤ U.length + 1) := Lib.hid alU_len
  have HZ : Hid (ZF F' bs) := Lib.hid (zf_alloc (r := ((u, v), r2)) HS4.out.zf HS4.out.pm HP'.out HM'.out)
  refine ((Pos.here HA6.out HM6.out).run_model (fun c' h' => allocM_any c' q g2 F A U bs n w6 h' HS4.out.gd HS4.out.pm (by omega))).mono ?_
  rintro e w7 ⟨rfl, hP⟩
  rw [HR.out] at hP ⊢
  simp only [rV]
  generalize alU U ((u, v), r2) = U' at *
  have HU7 : Hid (Box w7 s5 u v) := Lib.hid ((hP.block HU6.out.lt (by rw [h95]; exact sa_9)).trans HU6.out)
  have hb8 : Below w7.heap.size w7 (w7.alloc (.cells #[.int .i64 u, .int .i64 v] 31)) := (Below.refl _ _).alloc (Nat.le_refl _) _
  have HV8 := Lib.hid (Box.new (w := w7) (x := u) (y := v))
  have HU8 := Lib.hid (HU7.out.go hb8)
  have HP8 := Lib.hid ((hP.go hb8).from_ HK6.out HC5.out)
  obtain ⟨c8, ha8, hm8, _⟩ := HP8.out.ex
  have HA8 := Lib.hid ha8
  have HM8 := Lib.hid hm8
  clear hP hb8 ha8 hm8 HU6 HA6 HM6 HU7
  go_wp2
  generalize w7.alloc (.cells #[.int .i64 u, .int .i64 v] 31) = w8 at *
  generalize w7.heap.size = s7 at *
  have e0 : ∀ m : Later w8, m.val.cell? ⟨s5, 0, none⟩ = some (.int .i64 u) := fun m => later_old m HU8.out.cell0
  have e1 : ∀ m : Later w8, m.val.cell? ⟨s5, 1, none⟩ = some (.int .i64 v) := fun m => later_old m HU8.out.cell1
  have e2 : ∀ m : Later w8, m.val.cell? ⟨s7, 0, none⟩ = some (.int .i64 u) := fun m => later_old m HV8.out.cell0
  have e3 : ∀ m : Later w8, m.val.cell? ⟨s7, 1, none⟩ = some (.int .i64 v) := fun m => later_old m HV8.out.cell1
  have H1 := Lib.hid (fun m : Later w8 => fitsA_any c8 a p g F' A' bs n m.val (HA8.out.go m.2) (by have := gd_flen HG'.out; omega))
  have H2 := Lib.hid (fun m : Later w8 => fitsR_any c8 2 q _ n F' A' U' m.val (HM8.out.go m.2).mo HG'.out HP'.out (by have := HUL.out; omega))
  generalize (chR F' n).2 = r3 at *
  have hqw8 : q < w8.heap.size := HM8.out.lt
  refine wp_region_later (by kernel_rfl) (by kernel_rfl) ?_
  repeat (go_big_quiet_step (first | (go_at_call 28; exact Calls.later (H1.out _)) | (go_at_call 29; exact Calls.later (H2.out _))))
  refine wpQuiet_nil ?_
  rintro w9 ⟨⟨_, hq⟩, rfl⟩
  have HP9 := Lib.hid (HP8.out.go hq)
  clear hq H1 H2 e0 e1 e2 e3 HA8 HM8
  go_wp2
  go_ret
  exact stE HP9.out HG'.out HP'.out HZ.out rfl (by have := HUL.out; omega) HB4.out HC0.out.1

theorem step_alloc1 (x0 x1 x2 x3 x4 x5 : Int) (w : World) (c : Nat → Nat) (a p g q g2 : Nat) (F A U : List (Int × Int)) (bs : List Int) (h : Sr w c a p g q g2 F A U bs) (hU : U.length ≤ 800) (hx : ∀ x ∈ [x0, x1, x2, x3, x4, x5], 0 ≤ x ∧ x ≤ 255) (h9 : x0 % 9 = 1) :
    Calls Try.prog 33 #[.pointer (some ⟨a, 0, none⟩), .pointer (some ⟨q, 0, none⟩), .agg #[.int .u8 x0, .int .u8 x1, .int .u8 x2, .int .u8 x3, .int .u8 x4, .int .u8 x5]] w (StE w c a p g q g2 U bs.length) := by
  obtain ⟨l0, u0⟩ := hx x0 (by simp)
  obtain ⟨l1, u1⟩ := hx x1 (by simp)
  obtain ⟨l2, u2⟩ := hx x2 (by simp)
  obtain ⟨l3, u3⟩ := hx x3 (by simp)
  obtain ⟨l4, u4⟩ := hx x4 (by simp)
  obtain ⟨l5, u5⟩ := hx x5 (by simp)
  have hb0 : Below w.heap.size w (w.alloc (.cells #[.int .u8 x0, .int .u8 x1, .int .u8 x2, .int .u8 x3, .int .u8 x4, .int .u8 x5] 67)) := (Below.refl _ _).alloc (Nat.le_refl _) _
  have HX : Hid (Six (w.alloc (.cells #[.int .u8 x0, .int .u8 x1, .int .u8 x2, .int .u8 x3, .int .u8 x4, .int .u8 x5] 67)) w.heap.size [x0, x1, x2, x3, x4, x5]) := Lib.hid (heap_alloc_new w _)
  have HB0 := Lib.hid hb0
  have HS := Lib.hid ((h.recol (c' := rc c w.heap.size 9) (fun _ hx => rc_old hx)).go hb0)
  have HC0 : Hid ((∀ z, z < w.heap.size → rc c w.heap.size 9 z = c z) ∧ ∀ z, w.heap.size ≤ z → rc c w.heap.size 9 z = 9) := Lib.hid ⟨fun _ hx => rc_old hx, fun _ hx => rc_new hx⟩
  have hAU := h.len
  have HI := Lib.hid h.ins
  have hsm := h.ar.small
  have hqlt := h.mr.lt
  generalize rc c w.heap.size 9 = c0 at *
  clear h hb0 hx
  go_enter Try.func33, Try.ntmps33
  go_wp2_with fail
  generalize w.alloc (.cells #[.int .u8 x0, .int .u8 x1, .int .u8 x2, .int .u8 x3, .int .u8 x4, .int .u8 x5] 67) = w1 at *
  refine (extent_any c0 q g2 U bs x1 x2 w1 HS.out.mr HI.out (by omega) ⟨l1, u1⟩ ⟨l2, u2⟩).mono ?_
  rintro e w2 ⟨x, y, rfl, ⟨bx0, bx1⟩, ⟨by0, by1⟩, hb⟩
  have hb2 : Below w1.heap.size w1 (w2.alloc (.cells #[.int .i64 x, .int .i64 y] 31)) := hb.alloc hb.size _
  have HE3 := Lib.hid (Box.new (w := w2) (x := x) (y := y))
  have HX3 := Lib.hid (HX.out.go hb2)
  have HB3 := Lib.hid (Below.then HB0.out hb2 (Nat.le_refl _))
  have HS3 := Lib.hid (HS.out.go hb2)
  have hw2 : w.heap.size ≤ w2.heap.size := Nat.le_trans HB0.out.size hb.size
  clear hb hb2 HX HS HB0
  have z3 := HX3.out.cell (i := 3) rfl
  go_wp2_with fail
  generalize w2.alloc (.cells #[.int .i64 x, .int .i64 y] 31) = w3 at *
  generalize ht : w2.heap.size = t at *
  clear ht w2
  clear z3
  refine (off_any x3 w3 ⟨l3, u3⟩).mono ?_
  rintro e w4 ⟨rfl, hb⟩
  have HE4 := Lib.hid (HE3.out.go hb)
  have HX4 := Lib.hid (HX3.out.go hb)
  have HB4 := Lib.hid (Below.then HB3.out hb (Nat.le_refl _))
  have HS4 := Lib.hid (HS3.out.go hb)
  clear hb HE3 HX3 HB3 HS3
  have hk : -9 ≤ offV x3 ∧ offV x3 ≤ 23 := by unfold offV; omega
  obtain ⟨k0, k1⟩ := hk
  generalize offV x3 = k at *
  have z0 := HX4.out.cell (i := 0) rfl
  have z4 := HX4.out.cell (i := 4) rfl
  have z5 := HX4.out.cell (i := 5) rfl
  have hb4 : w.heap.size ≤ w4.heap.size := HB4.out.size
  have z1 := HX4.out.cell (i := 1) rfl
  have z2 := HX4.out.cell (i := 2) rfl
  have hn : -1 ≤ x1 % 40 - x2 / 250 ∧ x1 % 40 - x2 / 250 ≤ 39 := by omega
  have HN := Lib.hid hn
  clear hn
  go_wp2_with fail
  clear z0 z1 z2 z4 z5 HE4 HX4
  generalize x1 % 40 - x2 / 250 = n at *
  refine ((Pos.start HS4.out (Below.refl _ _)).run_af (fun c' h' => allocA_any c' a p g F A U bs n w4 h' HS4.out.gd (by omega) HS4.out.pm)).mono ?_
  rintro e w5 ⟨rfl, F', A', hP, hg', hp', hm'⟩
  obtain ⟨c5, ha5, hm5, hk5, hc5, hn5⟩ := hP.ex
  have HG' := Lib.hid hg'
  have HM' := Lib.hid hm'
  generalize hr : chR F n = r at *
  have HR := Lib.hid hr
  obtain ⟨⟨u, v⟩, r2⟩ := r
  have HP' := Lib.hid hp'
  simp only [rV]
  have hb6 : Below w5.heap.size w5 (w5.alloc (.cells #[.int .i64 u, .int .i64 v] 31)) := (Below.refl _ _).alloc (Nat.le_refl _) _
  have HU6 := Lib.hid (Box.new (w := w5) (x := u) (y := v))
  have HA6 := Lib.hid (ha5.go hb6)
  have HM6 := Lib.hid (hm5.go hb6)
  have HK6 := Lib.hid (hk5.trans (KS.ofBelow (c := c5) hb6) hc5)
  have HC5 := Lib.hid hc5
  have h95 : c5 w5.heap.size = 9 := hn5 _ (Nat.le_refl _)
  have hw45 : w4.heap.size ≤ w5.heap.size := hk5.size
  clear hr hg' hp' hm' hP ha5 hm5 hk5 hb6 hc5 hn5
  go_wp2_with fail
  generalize w5.alloc (.cells #[.int .i64 u, .int .i64 v] 31) = w6 at *
  generalize hs5 : w5.heap.size = s5 at *
  clear hs5
  have HUL : Hid ((alU U ((u, v), r2)).length ≤ U.length + 1) := Lib.hid alU_len
  have HZ : Hid (ZF F' bs) := Lib.hid (zf_alloc (r := ((u, v), r2)) HS4.out.zf HS4.out.pm HP'.out HM'.out)
  refine ((Pos.here HA6.out HM6.out).run_model (fun c' h' => allocM_any c' q g2 F A U bs n w6 h' HS4.out.gd HS4.out.pm (by omega))).mono ?_
  rintro e w7 ⟨rfl, hP⟩
  rw [HR.out] at hP ⊢
  simp only [rV]
  generalize alU U ((u, v), r2) = U' at *
  have HU7 : Hid (Box w7 s5 u v) := Lib.hid ((hP.block HU6.out.lt (by rw [h95]; exact sa_9)).trans HU6.out)
  have hb8 : Below w7.heap.size w7 (w7.alloc (.cells #[.int .i64 u, .int .i64 v] 31)) := (Below.refl _ _).alloc (Nat.le_refl _) _
  have HV8 := Lib.hid (Box.new (w := w7) (x := u) (y := v))
  have HU8 := Lib.hid (HU7.out.go hb8)
  have HP8 := Lib.hid ((hP.go hb8).from_ HK6.out HC5.out)
  obtain ⟨c8, ha8, hm8, _⟩ := HP8.out.ex
  have HA8 := Lib.hid ha8
  have HM8 := Lib.hid hm8
  clear hP hb8 ha8 hm8 HU6 HA6 HM6 HU7
  go_wp2
  generalize w7.alloc (.cells #[.int .i64 u, .int .i64 v] 31) = w8 at *
  generalize w7.heap.size = s7 at *
  have e0 : ∀ m : Later w8, m.val.cell? ⟨s5, 0, none⟩ = some (.int .i64 u) := fun m => later_old m HU8.out.cell0
  have e1 : ∀ m : Later w8, m.val.cell? ⟨s5, 1, none⟩ = some (.int .i64 v) := fun m => later_old m HU8.out.cell1
  have e2 : ∀ m : Later w8, m.val.cell? ⟨s7, 0, none⟩ = some (.int .i64 u) := fun m => later_old m HV8.out.cell0
  have e3 : ∀ m : Later w8, m.val.cell? ⟨s7, 1, none⟩ = some (.int .i64 v) := fun m => later_old m HV8.out.cell1
  have H1 := Lib.hid (fun m : Later w8 => fitsA_any c8 a p g F' A' bs n m.val (HA8.out.go m.2) (by have := gd_flen HG'.out; omega))
  have H2 := Lib.hid (fun m : Later w8 => fitsR_any c8 2 q _ n F' A' U' m.val (HM8.out.go m.2).mo HG'.out HP'.out (by have := HUL.out; omega))
  generalize (chR F' n).2 = r3 at *
  have hqw8 : q < w8.heap.size := HM8.out.lt
  refine wp_region_later (by kernel_rfl) (by kernel_rfl) ?_
  repeat (go_big_quiet_step (first | (go_at_call 28; exact Calls.later (H1.out _)) | (go_at_call 29; exact Calls.later (H2.out _))))
  refine wpQuiet_nil ?_
  rintro w9 ⟨⟨_, hq⟩, rfl⟩
  have HP9 := Lib.hid (HP8.out.go hq)
  clear hq H1 H2 e0 e1 e2 e3 HA8 HM8
  go_wp2
  go_ret
  exact stE HP9.out HG'.out HP'.out HZ.out rfl (by have := HUL.out; omega) HB4.out HC0.out.1

theorem step_alloc2 (x0 x1 x2 x3 x4 x5 : Int) (w : World) (c : Nat → Nat) (a p g q g2 : Nat) (F A U : List (Int × Int)) (bs : List Int) (h : Sr w c a p g q g2 F A U bs) (hU : U.length ≤ 800) (hx : ∀ x ∈ [x0, x1, x2, x3, x4, x5], 0 ≤ x ∧ x ≤ 255) (h9 : x0 % 9 = 2) :
    Calls Try.prog 33 #[.pointer (some ⟨a, 0, none⟩), .pointer (some ⟨q, 0, none⟩), .agg #[.int .u8 x0, .int .u8 x1, .int .u8 x2, .int .u8 x3, .int .u8 x4, .int .u8 x5]] w (StE w c a p g q g2 U bs.length) := by
  obtain ⟨l0, u0⟩ := hx x0 (by simp)
  obtain ⟨l1, u1⟩ := hx x1 (by simp)
  obtain ⟨l2, u2⟩ := hx x2 (by simp)
  obtain ⟨l3, u3⟩ := hx x3 (by simp)
  obtain ⟨l4, u4⟩ := hx x4 (by simp)
  obtain ⟨l5, u5⟩ := hx x5 (by simp)
  have hb0 : Below w.heap.size w (w.alloc (.cells #[.int .u8 x0, .int .u8 x1, .int .u8 x2, .int .u8 x3, .int .u8 x4, .int .u8 x5] 67)) := (Below.refl _ _).alloc (Nat.le_refl _) _
  have HX : Hid (Six (w.alloc (.cells #[.int .u8 x0, .int .u8 x1, .int .u8 x2, .int .u8 x3, .int .u8 x4, .int .u8 x5] 67)) w.heap.size [x0, x1, x2, x3, x4, x5]) := Lib.hid (heap_alloc_new w _)
  have HB0 := Lib.hid hb0
  have HS := Lib.hid ((h.recol (c' := rc c w.heap.size 9) (fun _ hx => rc_old hx)).go hb0)
  have HC0 : Hid ((∀ z, z < w.heap.size → rc c w.heap.size 9 z = c z) ∧ ∀ z, w.heap.size ≤ z → rc c w.heap.size 9 z = 9) := Lib.hid ⟨fun _ hx => rc_old hx, fun _ hx => rc_new hx⟩
  have hAU := h.len
  have HI := Lib.hid h.ins
  have hsm := h.ar.small
  have hqlt := h.mr.lt
  generalize rc c w.heap.size 9 = c0 at *
  clear h hb0 hx
  go_enter Try.func33, Try.ntmps33
  go_wp2_with fail
  generalize w.alloc (.cells #[.int .u8 x0, .int .u8 x1, .int .u8 x2, .int .u8 x3, .int .u8 x4, .int .u8 x5] 67) = w1 at *
  refine (extent_any c0 q g2 U bs x1 x2 w1 HS.out.mr HI.out (by omega) ⟨l1, u1⟩ ⟨l2, u2⟩).mono ?_
  rintro e w2 ⟨x, y, rfl, ⟨bx0, bx1⟩, ⟨by0, by1⟩, hb⟩
  have hb2 : Below w1.heap.size w1 (w2.alloc (.cells #[.int .i64 x, .int .i64 y] 31)) := hb.alloc hb.size _
  have HE3 := Lib.hid (Box.new (w := w2) (x := x) (y := y))
  have HX3 := Lib.hid (HX.out.go hb2)
  have HB3 := Lib.hid (Below.then HB0.out hb2 (Nat.le_refl _))
  have HS3 := Lib.hid (HS.out.go hb2)
  have hw2 : w.heap.size ≤ w2.heap.size := Nat.le_trans HB0.out.size hb.size
  clear hb hb2 HX HS HB0
  have z3 := HX3.out.cell (i := 3) rfl
  go_wp2_with fail
  generalize w2.alloc (.cells #[.int .i64 x, .int .i64 y] 31) = w3 at *
  generalize ht : w2.heap.size = t at *
  clear ht w2
  clear z3
  refine (off_any x3 w3 ⟨l3, u3⟩).mono ?_
  rintro e w4 ⟨rfl, hb⟩
  have HE4 := Lib.hid (HE3.out.go hb)
  have HX4 := Lib.hid (HX3.out.go hb)
  have HB4 := Lib.hid (Below.then HB3.out hb (Nat.le_refl _))
  have HS4 := Lib.hid (HS3.out.go hb)
  clear hb HE3 HX3 HB3 HS3
  have hk : -9 ≤ offV x3 ∧ offV x3 ≤ 23 := by unfold offV; omega
  obtain ⟨k0, k1⟩ := hk
  generalize offV x3 = k at *
  have z0 := HX4.out.cell (i := 0) rfl
  have z4 := HX4.out.cell (i := 4) rfl
  have z5 := HX4.out.cell (i := 5) rfl
  have hb4 : w.heap.size ≤ w4.heap.size := HB4.out.size
  have z1 := HX4.out.cell (i := 1) rfl
  have z2 := HX4.out.cell (i := 2) rfl
  have hn : -1 ≤ x1 % 40 - x2 / 250 ∧ x1 % 40 - x2 / 250 ≤ 39 := by omega
  have HN := Lib.hid hn
  clear hn
  go_wp2_with fail
  clear z0 z1 z2 z4 z5 HE4 HX4
  generalize x1 % 40 - x2 / 250 = n at *
  refine ((Pos.start HS4.out (Below.refl _ _)).run_af (fun c' h' => allocA_any c' a p g F A U bs n w4 h' HS4.out.gd (by omega) HS4.out.pm)).mono ?_
  rintro e w5 ⟨rfl, F', A', hP, hg', hp', hm'⟩
  obtain ⟨c5, ha5, hm5, hk5, hc5, hn5⟩ := hP.ex
  have HG' := Lib.hid hg'
  have HM' := Lib.hid hm'
  generalize hr : chR F n = r at *
  have HR := Lib.hid hr
  obtain ⟨⟨u, v⟩, r2⟩ := r
  have HP' := Lib.hid hp'
  simp only [rV]
  have hb6 : Below w5.heap.size w5 (w5.alloc (.cells #[.int .i64 u, .int .i64 v] 31)) := (Below.refl _ _).alloc (Nat.le_refl _) _
  have HU6 := Lib.hid (Box.new (w := w5) (x := u) (y := v))
  have HA6 := Lib.hid (ha5.go hb6)
  have HM6 := Lib.hid (hm5.go hb6)
  have HK6 := Lib.hid (hk5.trans (KS.ofBelow (c := c5) hb6) hc5)
  have HC5 := Lib.hid hc5
  have h95 : c5 w5.heap.size = 9 := hn5 _ (Nat.le_refl _)
  have hw45 : w4.heap.size ≤ w5.heap.size := hk5.size
  clear hr hg' hp' hm' hP ha5 hm5 hk5 hb6 hc5 hn5
  go_wp2_with fail
  generalize w5.alloc (.cells #[.int .i64 u, .int .i64 v] 31) = w6 at *
  generalize hs5 : w5.heap.size = s5 at *
  clear hs5
  have HUL : Hid ((alU U ((u, v), r2)).length ≤ U.length + 1) := Lib.hid alU_len
  have HZ : Hid (ZF F' bs) := Lib.hid (zf_alloc (r := ((u, v), r2)) HS4.out.zf HS4.out.pm HP'.out HM'.out)
  refine ((Pos.here HA6.out HM6.out).run_model (fun c' h' => allocM_any c' q g2 F A U bs n w6 h' HS4.out.gd HS4.out.pm (by omega))).mono ?_
  rintro e w7 ⟨rfl, hP⟩
  rw [HR.out] at hP ⊢
  simp only [rV]
  generalize alU U ((u, v), r2) = U' at *
  have HU7 : Hid (Box w7 s5 u v) := Lib.hid ((hP.block HU6.out.lt (by rw [h95]; exact sa_9)).trans HU6.out)
  have hb8 : Below w7.heap.size w7 (w7.alloc (.cells #[.int .i64 u, .int .i64 v] 31)) := (Below.refl _ _).alloc (Nat.le_refl _) _
  have HV8 := Lib.hid (Box.new (w := w7) (x := u) (y := v))
  have HU8 := Lib.hid (HU7.out.go hb8)
  have HP8 := Lib.hid ((hP.go hb8).from_ HK6.out HC5.out)
  obtain ⟨c8, ha8, hm8, _⟩ := HP8.out.ex
  have HA8 := Lib.hid ha8
  have HM8 := Lib.hid hm8
  clear hP hb8 ha8 hm8 HU6 HA6 HM6 HU7
  go_wp2
  generalize w7.alloc (.cells #[.int .i64 u, .int .i64 v] 31) = w8 at *
  generalize w7.heap.size = s7 at *
  have e0 : ∀ m : Later w8, m.val.cell? ⟨s5, 0, none⟩ = some (.int .i64 u) := fun m => later_old m HU8.out.cell0
  have e1 : ∀ m : Later w8, m.val.cell? ⟨s5, 1, none⟩ = some (.int .i64 v) := fun m => later_old m HU8.out.cell1
  have e2 : ∀ m : Later w8, m.val.cell? ⟨s7, 0, none⟩ = some (.int .i64 u) := fun m => later_old m HV8.out.cell0
  have e3 : ∀ m : Later w8, m.val.cell? ⟨s7, 1, none⟩ = some (.int .i64 v) := fun m => later_old m HV8.out.cell1
  have H1 := Lib.hid (fun m : Later w8 => fitsA_any c8 a p g F' A' bs n m.val (HA8.out.go m.2) (by have := gd_flen HG'.out; omega))
  have H2 := Lib.hid (fun m : Later w8 => fitsR_any c8 2 q _ n F' A' U' m.val (HM8.out.go m.2).mo HG'.out HP'.out (by have := HUL.out; omega))
  generalize (chR F' n).2 = r3 at *
  have hqw8 : q < w8.heap.size := HM8.out.lt
  refine wp_region_later (by kernel_rfl) (by kernel_rfl) ?_
  repeat (go_big_quiet_step (first | (go_at_call 28; exact Calls.later (H1.out _)) | (go_at_call 29; exact Calls.later (H2.out _))))
  refine wpQuiet_nil ?_
  rintro w9 ⟨⟨_, hq⟩, rfl⟩
  have HP9 := Lib.hid (HP8.out.go hq)
  clear hq H1 H2 e0 e1 e2 e3 HA8 HM8
  go_wp2
  go_ret
  exact stE HP9.out HG'.out HP'.out HZ.out rfl (by have := HUL.out; omega) HB4.out HC0.out.1
end Go.Proofs.Ytfchccgajcjbbaa
