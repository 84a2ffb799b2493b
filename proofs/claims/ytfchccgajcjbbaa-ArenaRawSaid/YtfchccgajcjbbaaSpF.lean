/-
  Contract of the laws' step of layer 7, where it frees, stores or loads. Conditions: at most eight hundred extents.
-/
import Derived.Test.YtfchccgajcjbbaaSrt
namespace Go.Proofs.Ytfchccgajcjbbaa
open Go.ChangeShapes Go.WideShapes Go.ChangeAt Go.RowKit
set_option maxHeartbeats 8000000
set_option maxRecDepth 100000

theorem step_free (x0 x1 x2 x3 x4 x5 : Int) (w : World) (c : Nat → Nat) (a p g q g2 : Nat) (F A U : List (Int × Int)) (bs : List Int) (h : Sr w c a p g q g2 F A U bs) (hU : U.length ≤ 800) (hx : ∀ x ∈ [x0, x1, x2, x3, x4, x5], 0 ≤ x ∧ x ≤ 255) (h9 : x0 % 9 = 3) :
    Calls Try.prog 33 #[.pointer (some ⟨a, 0, none⟩), .pointer (some ⟨q, 0, none⟩), .agg #[.int .u8 x0, .int .u8 x1, .int .u8 x2, .int .u8 x3, .int .u8 x4, .int .u8 x5]] w (StE w c a p g q g2 U bs.length) := by
  obtain ⟨l0, u0⟩ := hx x0 (by simp)
  obtain ⟨l1, u1⟩ := hx x1 (by simp)
  obtain ⟨l2, u2⟩ := hx x2 (by simp)
  obtain ⟨l3, u3⟩ := hx x3 (by simp)
  obtain ⟨l4, u4⟩ := hx x4 (by simp)
  obtain ⟨l5, u5⟩ := hx x5 (by simp)
  have hb0 : Below w.heap.size w (w.alloc (.cells #[.int .u8 x0, .int .u8 x1, .int .u8 x2, .int .u8 x3, .int .u8 x4, .int .u8 x5] 67)) := (Below.refl _ _).alloc (Nat.le_refl _) _
  have HX : Hid (Six (w.alloc (.cells #[.int .u8 x0, .int .u8 x1, .int .u8 x2, .int .u8 x3, .int .u8 x4, .int .u8 x5] 67)) w.heap.size [x0, x1, x2, x3, x4, x5]) := Lib.hid (heap_alloc_new w _)
  have HB0 := Lib.hid hb0
  have HS := Lib.hid ((h.recol (c' := rc c w.heap.size 9) (fun _ hx => rc_old hx)).go hb0)
  have HC0 : Hid ((∀ z, z < w.heap.size → rc c w.heap.size 9 z = c z) ∧ ∀ z, w.heap.size ≤ z → rc c w.heap.size 9 z = 9) := Lib.hid ⟨fun _ hx => rc_old hx, fun _ hx => rc_new hx⟩
  have hAU := h.len
  have HI := Lib.hid h.ins
  have hsm := h.ar.small
  have hqlt := h.mr.lt
  generalize rc c w.heap.size 9 = c0 at *
  clear h hb0 hx
  go_enter Try.func33, Try.ntmps33
  go_wp2_with fail
  generalize w.alloc (.cells #[.int .u8 x0, .int .u8 x1, .int .u8 x2, .int .u8 x3, .int .u8 x4, .int .u8 x5] 67) = w1 at *
  refine (extent_any c0 q g2 U bs x1 x2 w1 HS.out.mr HI.out (by omega) ⟨l1, u1⟩ ⟨l2, u2⟩).mono ?_
  rintro e w2 ⟨x, y, rfl, ⟨bx0, bx1⟩, ⟨by0, by1⟩, hb⟩
  have hb2 : Below w1.heap.size w1 (w2.alloc (.cells #[.int .i64 x, .int .i64 y] 31)) := hb.alloc hb.size _
  have HE3 := Lib.hid (Box.new (w := w2) (x := x) (y := y))
  have HX3 := Lib.hid (HX.out.go hb2)
  have HB3 := Lib.hid (Below.then HB0.out hb2 (Nat.le_refl _))
  have HS3 := Lib.hid (HS.out.go hb2)
  have hw2 : w.heap.size ≤ w2.heap.size := Nat.le_trans HB0.out.size hb.size
  clear hb hb2 HX HS HB0
  have z3 := HX3.out.cell (i := 3) rfl
  go_wp2_with fail
  generalize w2.alloc (.cells #[.int .i64 x, .int .i64 y] 31) = w3 at *
  generalize ht : w2.heap.size = t at *
  clear ht w2
  clear z3
  refine (off_any x3 w3 ⟨l3, u3⟩).mono ?_
  rintro e w4 ⟨rfl, hb⟩
  have HE4 := Lib.hid (HE3.out.go hb)
  have HX4 := Lib.hid (HX3.out.go hb)
  have HB4 := Lib.hid (Below.then HB3.out hb (Nat.le_refl _))
  have HS4 := Lib.hid (HS3.out.go hb)
  clear hb HE3 HX3 HB3 HS3
  have hk : -9 ≤ offV x3 ∧ offV x3 ≤ 23 := by unfold offV; omega
  obtain ⟨k0, k1⟩ := hk
  generalize offV x3 = k at *
  have z0 := HX4.out.cell (i := 0) rfl
  have z4 := HX4.out.cell (i := 4) rfl
  have z5 := HX4.out.cell (i := 5) rfl
  have hb4 : w.heap.size ≤ w4.heap.size := HB4.out.size
  have htb : c0 t = 9 := HC0.out.2 t hw2
  obtain ⟨C, hC⟩ : ∃ C, C = C3 (Pos w4 c0 a p g q g2 F A bs U bs) (PosF w4 c0 a p g q g2 F A (wo U (x, y)) (frB A bs x y) U bs) (PosF w4 c0 a p g q g2 F A (wo U (x, y)) (frB A bs x y) (wo U (x, y)) (frB U bs x y)) := ⟨_, rfl⟩
  have hK : ∀ s w', C s w' → ∀ z, z < w4.heap.size → ¬ Sa (c0 z) → w'.heap[z]? = w4.heap[z]? := by
    rw [hC]
    exact c3_all (fun _ h z => h.block) (fun _ h z => h.block) (fun _ h z => h.block)
  have e0 : ∀ m : InSome C, m.val.cell? ⟨t, 0, none⟩ = some (.int .i64 x) := fun m => (some_box HE4.out hK htb m).cell0
  have e1 : ∀ m : InSome C, m.val.cell? ⟨t, 1, none⟩ = some (.int .i64 y) := fun m => (some_box HE4.out hK htb m).cell1
  have HP := Lib.hid (show C 0 (w4.drewN 1) by rw [hC]; exact Pos.start HS4.out (below_drewN (Below.refl _ _) 1))
  have hne : Nonempty (InSome C) := ⟨⟨_, 0, HP.out⟩⟩
  have H1 : Hid (∀ w', C 0 w' → Calls Try.prog 25 #[.pointer (some ⟨a, 0, none⟩), .agg #[.int .i64 x, .int .i64 y]] w' fun e w'' => e = .returned (.int .i64 (if (x, y) ∈ A then 0 else 6)) ∧ C 1 w'') :=
    Lib.hid (by rw [hC]; exact fun w' h => h.run_af (fun c' h' => freeA_any c' a p g F A U bs x y w' h' HS4.out.gd (by omega) HS4.out.pm))
  have H2 : Hid (∀ w', C 1 w' → Calls Try.prog 55 #[.pointer (some ⟨q, 0, none⟩), .agg #[.int .i64 x, .int .i64 y]] w' fun e w'' => e = .returned (.int .i64 (if (x, y) ∈ U then 0 else 6)) ∧ C 2 w'') :=
    Lib.hid (by rw [hC]; exact fun w' h => h.run_model (fun c' h' => freeM_any c' q g2 U bs x y w' h' HI.out (by omega)))
  have HD : Hid (∀ w', C 2 w' → StE w c a p g q g2 U bs.length (.returned (.bool true)) w') := Lib.hid (by
    rw [hC]
    intro w' h
    obtain ⟨F', A', h', hg', hp', hm'⟩ : PosF w4 c0 a p g q g2 F A (wo U (x, y)) (frB A bs x y) (wo U (x, y)) (frB U bs x y) w' := h
    rw [← frB_p HS4.out.pm] at h'
    exact stE h' hg' hp' (zf_free HS4.out.zf HS4.out.gd HS4.out.pm hp' hm') frB_len (Nat.le_trans wo_le (by omega)) HB4.out HC0.out.1)
  have hcc : (if (x, y) ∈ A then (0 : Int) else 6) = if (x, y) ∈ U then 0 else 6 := by simp only [HS4.out.mem]
  rw [hcc] at H1
  clear hcc
  generalize (if (x, y) ∈ U then (0 : Int) else 6) = r at *
  clear hC hK HS4 HE4 HX4
  go_wp2
  refine wp_region_staged [2, 5] C (by kernel_rfl) (by kernel_rfl) HP.out ?_
  refine lexT_seg 2 (by kernel_rfl) ?_
  simp only [List.take_succ_cons, List.take_zero, List.drop_succ_cons, List.drop_zero]
  repeat (go_big_quiet_step (fail))
  refine wpQuiet_nil ?_
  refine lexT_do H1.out Try.func25 (by kernel_rfl) rfl (by kernel_rfl) (by kernel_rfl) ?_
  simp only [Act.put, List.setIfInBounds_toArray, List.set_cons_succ, List.set_cons_zero]
  refine lexT_seg 2 (by kernel_rfl) ?_
  simp only [List.take_succ_cons, List.take_zero, List.drop_succ_cons, List.drop_zero]
  repeat (go_big_quiet_step (fail))
  refine wpQuiet_nil ?_
  refine lexT_do H2.out Try.func55 (by kernel_rfl) rfl (by kernel_rfl) (by kernel_rfl) ?_
  simp only [Act.put, List.setIfInBounds_toArray, List.set_cons_succ, List.set_cons_zero]
  refine lexT_seg 2 (by kernel_rfl) ?_
  simp only [List.take_succ_cons, List.take_zero, List.drop_succ_cons, List.drop_zero]
  repeat (go_big_quiet_step (fail))
  refine wpQuiet_nil ?_
  refine lexT_nil ?_
  intro w7 hw7
  have HW := Lib.hid (HD.out w7 hw7)
  clear hw7 HD H1 H2 HP e0 e1 hne
  go_wp2
  go_ret
  exact HW.out

theorem step_store (x0 x1 x2 x3 x4 x5 : Int) (w : World) (c : Nat → Nat) (a p g q g2 : Nat) (F A U : List (Int × Int)) (bs : List Int) (h : Sr w c a p g q g2 F A U bs) (hU : U.length ≤ 800) (hx : ∀ x ∈ [x0, x1, x2, x3, x4, x5], 0 ≤ x ∧ x ≤ 255) (h9 : x0 % 9 = 4) :
    Calls Try.prog 33 #[.pointer (some ⟨a, 0, none⟩), .pointer (some ⟨q, 0, none⟩), .agg #[.int .u8 x0, .int .u8 x1, .int .u8 x2, .int .u8 x3, .int .u8 x4, .int .u8 x5]] w (StE w c a p g q g2 U bs.length) := by
  obtain ⟨l0, u0⟩ := hx x0 (by simp)
  obtain ⟨l1, u1⟩ := hx x1 (by simp)
  obtain ⟨l2, u2⟩ := hx x2 (by simp)
  obtain ⟨l3, u3⟩ := hx x3 (by simp)
  obtain ⟨l4, u4⟩ := hx x4 (by simp)
  obtain ⟨l5, u5⟩ := hx x5 (by simp)
  have hb0 : Below w.heap.size w (w.alloc (.cells #[.int .u8 x0, .int .u8 x1, .int .u8 x2, .int .u8 x3, .int .u8 x4, .int .u8 x5] 67)) := (Below.refl _ _).alloc (Nat.le_refl _) _
  have HX : Hid (Six (w.alloc (.cells #[.int .u8 x0, .int .u8 x1, .int .u8 x2, .int .u8 x3, .int .u8 x4, .int .u8 x5] 67)) w.heap.size [x0, x1, x2, x3, x4, x5]) := Lib.hid (heap_alloc_new w _)
  have HB0 := Lib.hid hb0
  have HS := Lib.hid ((h.recol (c' := rc c w.heap.size 9) (fun _ hx => rc_old hx)).go hb0)
  have HC0 : Hid ((∀ z, z < w.heap.size → rc c w.heap.size 9 z = c z) ∧ ∀ z, w.heap.size ≤ z → rc c w.heap.size 9 z = 9) := Lib.hid ⟨fun _ hx => rc_old hx, fun _ hx => rc_new hx⟩
  have hAU := h.len
  have HI := Lib.hid h.ins
  have hsm := h.ar.small
  have hqlt := h.mr.lt
  generalize rc c w.heap.size 9 = c0 at *
  clear h hb0 hx
  go_enter Try.func33, Try.ntmps33
  go_wp2_with fail
  generalize w.alloc (.cells #[.int .u8 x0, .int .u8 x1, .int .u8 x2, .int .u8 x3, .int .u8 x4, .int .u8 x5] 67) = w1 at *
  refine (extent_any c0 q g2 U bs x1 x2 w1 HS.out.mr HI.out (by omega) ⟨l1, u1⟩ ⟨l2, u2⟩).mono ?_
  rintro e w2 ⟨x, y, rfl, ⟨bx0, bx1⟩, ⟨by0, by1⟩, hb⟩
  have hb2 : Below w1.heap.size w1 (w2.alloc (.cells #[.int .i64 x, .int .i64 y] 31)) := hb.alloc hb.size _
  have HE3 := Lib.hid (Box.new (w := w2) (x := x) (y := y))
  have HX3 := Lib.hid (HX.out.go hb2)
  have HB3 := Lib.hid (Below.then HB0.out hb2 (Nat.le_refl _))
  have HS3 := Lib.hid (HS.out.go hb2)
  have hw2 : w.heap.size ≤ w2.heap.size := Nat.le_trans HB0.out.size hb.size
  clear hb hb2 HX HS HB0
  have z3 := HX3.out.cell (i := 3) rfl
  go_wp2_with fail
  generalize w2.alloc (.cells #[.int .i64 x, .int .i64 y] 31) = w3 at *
  generalize ht : w2.heap.size = t at *
  clear ht w2
  clear z3
  refine (off_any x3 w3 ⟨l3, u3⟩).mono ?_
  rintro e w4 ⟨rfl, hb⟩
  have HE4 := Lib.hid (HE3.out.go hb)
  have HX4 := Lib.hid (HX3.out.go hb)
  have HB4 := Lib.hid (Below.then HB3.out hb (Nat.le_refl _))
  have HS4 := Lib.hid (HS3.out.go hb)
  clear hb HE3 HX3 HB3 HS3
  have hk : -9 ≤ offV x3 ∧ offV x3 ≤ 23 := by unfold offV; omega
  obtain ⟨k0, k1⟩ := hk
  generalize offV x3 = k at *
  have z0 := HX4.out.cell (i := 0) rfl
  have z4 := HX4.out.cell (i := 4) rfl
  have z5 := HX4.out.cell (i := 5) rfl
  have hb4 : w.heap.size ≤ w4.heap.size := HB4.out.size
  have hj : x4 % 5 = 0 ∨ x4 % 5 = 1 ∨ x4 % 5 = 2 ∨ x4 % 5 = 3 ∨ x4 % 5 = 4 := by omega
  have hz4 : w.heap.size < w4.heap.size := HX4.out.lt
  have hb5 : Below w4.heap.size w4 (w4.alloc (.cells #[.int .i64 1, .int .i64 2, .int .i64 4, .int .i64 8, .int .i64 (x4 % 11)] 3)) := (Below.refl _ _).alloc (Nat.le_refl _) _
  have hcd : ∃ N : Nat, N ≤ 10 ∧ (w4.alloc (.cells #[.int .i64 1, .int .i64 2, .int .i64 4, .int .i64 8, .int .i64 (x4 % 11)] 3)).cell? ⟨w4.heap.size, (x4 % 5).toNat, none⟩ = some (.int .i64 N) := by
    have hnew := fun i => cell_of_row (w4.alloc (.cells #[.int .i64 1, .int .i64 2, .int .i64 4, .int .i64 8, .int .i64 (x4 % 11)] 3)) w4.heap.size i _ _ _ (heap_alloc_new w4 _)
    obtain ⟨M, hM⟩ : ∃ M : Nat, x4 % 11 = M := ⟨(x4 % 11).toNat, by omega⟩
    rcases hj with h | h | h | h | h
    · exact ⟨1, by omega, by rw [h, hnew]; rfl⟩
    · exact ⟨2, by omega, by rw [h, hnew]; rfl⟩
    · exact ⟨4, by omega, by rw [h, hnew]; rfl⟩
    · exact ⟨8, by omega, by rw [h, hnew]; rfl⟩
    · exact ⟨M, by omega, by rw [h, hnew, ← hM]; rfl⟩
  obtain ⟨N, hN, hcd⟩ := hcd
  have hj0 : 0 ≤ x4 % 5 := by omega
  have hj1 : x4 % 5 < 5 := by omega
  clear hj
  have z4' := cell_under z4 (.cells #[.int .i64 1, .int .i64 2, .int .i64 4, .int .i64 8, .int .i64 (x4 % 11)] 3)
  have z5' := cell_under z5 (.cells #[.int .i64 1, .int .i64 2, .int .i64 4, .int .i64 8, .int .i64 (x4 % 11)] 3)
  have HE5 := Lib.hid (HE4.out.go hb5)
  have HB5 := Lib.hid (Below.then HB4.out hb5 (Nat.le_refl _))
  have HS5 := Lib.hid (HS4.out.go hb5)
  clear hb5
  have hV : 0 ≤ x5 * 72340172838076673 / 2 ^ (8 * (x4 / 5 % 8)).toNat ∧ x5 * 72340172838076673 / 2 ^ (8 * (x4 / 5 % 8)).toNat < 18446744073709551616 := by
    have h1 : 0 ≤ x5 * 72340172838076673 := by omega
    have h2 : (0 : Int) < 2 ^ (8 * (x4 / 5 % 8)).toNat := Int.pow_pos (by decide)
    have h3 := Int.ediv_nonneg h1 (Int.le_of_lt h2)
    have h4 := Int.ediv_le_self (2 ^ (8 * (x4 / 5 % 8)).toNat) h1
    omega
  have HV := Lib.hid hV
  clear hV
  go_wp2
  generalize w4.alloc (.cells #[.int .i64 1, .int .i64 2, .int .i64 4, .int .i64 8, .int .i64 (x4 % 11)] 3) = w5 at *
  generalize x5 * 72340172838076673 / 2 ^ (8 * (x4 / 5 % 8)).toNat = V at *
  clear hcd z0 z4 z5 z4' z5' HE4 HB4 HS4 HX4
  have htb : c0 t = 9 := HC0.out.2 t hw2
  obtain ⟨C, hC⟩ : ∃ C, C = C3 (Pos w5 c0 a p g q g2 F A bs U bs) (Pos w5 c0 a p g q g2 F A (stB A bs x y k N V) U bs) (Pos w5 c0 a p g q g2 F A (stB A bs x y k N V) U (stB U bs x y k N V)) := ⟨_, rfl⟩
  have hK : ∀ s w', C s w' → ∀ z, z < w5.heap.size → ¬ Sa (c0 z) → w'.heap[z]? = w5.heap[z]? := by
    rw [hC]
    exact c3_all (fun _ h z => h.block) (fun _ h z => h.block) (fun _ h z => h.block)
  have e0 : ∀ m : InSome C, m.val.cell? ⟨t, 0, none⟩ = some (.int .i64 x) := fun m => (some_box HE5.out hK htb m).cell0
  have e1 : ∀ m : InSome C, m.val.cell? ⟨t, 1, none⟩ = some (.int .i64 y) := fun m => (some_box HE5.out hK htb m).cell1
  have HP := Lib.hid (show C 0 (w5.drewN 1) by rw [hC]; exact Pos.start HS5.out (below_drewN (Below.refl _ _) 1))
  have hne : Nonempty (InSome C) := ⟨⟨_, 0, HP.out⟩⟩
  have H1 : Hid (∀ w', C 0 w' → Calls Try.prog 18 #[.pointer (some ⟨a, 0, none⟩), .agg #[.int .i64 x, .int .i64 y], .int .i64 k, .int .i64 N, .int .u64 V] w' fun e w'' => e = .returned (.int .i64 (stC A x y k N V)) ∧ C 1 w'') :=
    Lib.hid (by rw [hC]; exact fun w' h => h.run_prog (fun c' h' => storeA_any c' a p g F A bs x y k V N w' h' HS5.out.gd (by omega)))
  have H2 : Hid (∀ w', C 1 w' → Calls Try.prog 19 #[.pointer (some ⟨q, 0, none⟩), .agg #[.int .i64 x, .int .i64 y], .int .i64 k, .int .i64 N, .int .u64 V] w' fun e w'' => e = .returned (.int .i64 (stC U x y k N V)) ∧ C 2 w'') :=
    Lib.hid (by rw [hC]; exact fun w' h => h.run_model (fun c' h' => storeM_any c' q g2 U bs x y k V N w' h' HI.out (by omega) HV.out.1 HV.out.2))
  have HD : Hid (∀ w', C 2 w' → StE w c a p g q g2 U bs.length (.returned (.bool true)) w') := Lib.hid (by
    rw [hC]
    intro w' h
    have h' : Pos w5 c0 a p g q g2 F A (stB A bs x y k N V) U (stB U bs x y k N V) w' := h
    rw [← stB_p HS5.out.pm] at h'
    exact stE h' (by rw [stB_len]; exact HS5.out.gd) HS5.out.pm (zf_stB HS5.out.zf HS5.out.gd) stB_len (by omega) HB5.out HC0.out.1)
  have hcc : stC A x y k N V = stC U x y k N V := stC_p HS5.out.pm x y k N V
  rw [hcc] at H1
  generalize stC U x y k N V = r at *
  clear hC hK HS5 HE5
  refine wp_region_staged [5, 11] C (by kernel_rfl) (by kernel_rfl) HP.out ?_
  refine lexT_seg 5 (by kernel_rfl) ?_
  simp only [List.take_succ_cons, List.take_zero, List.drop_succ_cons, List.drop_zero]
  repeat (go_big_quiet_step (fail))
  refine wpQuiet_nil ?_
  refine lexT_do H1.out Try.func18 (by kernel_rfl) rfl (by kernel_rfl) (by kernel_rfl) ?_
  simp only [Act.put, List.setIfInBounds_toArray, List.set_cons_succ, List.set_cons_zero]
  refine lexT_seg 5 (by kernel_rfl) ?_
  simp only [List.take_succ_cons, List.take_zero, List.drop_succ_cons, List.drop_zero]
  repeat (go_big_quiet_step (fail))
  refine wpQuiet_nil ?_
  refine lexT_do H2.out Try.func19 (by kernel_rfl) rfl (by kernel_rfl) (by kernel_rfl) ?_
  simp only [Act.put, List.setIfInBounds_toArray, List.set_cons_succ, List.set_cons_zero]
  refine lexT_seg 2 (by kernel_rfl) ?_
  simp only [List.take_succ_cons, List.take_zero, List.drop_succ_cons, List.drop_zero]
  repeat (go_big_quiet_step (fail))
  refine wpQuiet_nil ?_
  refine lexT_nil ?_
  intro w7 hw7
  have HW := Lib.hid (HD.out w7 hw7)
  clear hw7 HD H1 H2 HP e0 e1 hne
  go_wp2
  go_ret
  exact HW.out

theorem step_load (x0 x1 x2 x3 x4 x5 : Int) (w : World) (c : Nat → Nat) (a p g q g2 : Nat) (F A U : List (Int × Int)) (bs : List Int) (h : Sr w c a p g q g2 F A U bs) (hU : U.length ≤ 800) (hx : ∀ x ∈ [x0, x1, x2, x3, x4, x5], 0 ≤ x ∧ x ≤ 255) (h9 : x0 % 9 = 5) :
    Calls Try.prog 33 #[.pointer (some ⟨a, 0, none⟩), .pointer (some ⟨q, 0, none⟩), .agg #[.int .u8 x0, .int .u8 x1, .int .u8 x2, .int .u8 x3, .int .u8 x4, .int .u8 x5]] w (StE w c a p g q g2 U bs.length) := by
  obtain ⟨l0, u0⟩ := hx x0 (by simp)
  obtain ⟨l1, u1⟩ := hx x1 (by simp)
  obtain ⟨l2, u2⟩ := hx x2 (by simp)
  obtain ⟨l3, u3⟩ := hx x3 (by simp)
  obtain ⟨l4, u4⟩ := hx x4 (by simp)
  obtain ⟨l5, u5⟩ := hx x5 (by simp)
  have hb0 : Below w.heap.size w (w.alloc (.cells #[.int .u8 x0, .int .u8 x1, .int .u8 x2, .int .u8 x3, .int .u8 x4, .int .u8 x5] 67)) := (Below.refl _ _).alloc (Nat.le_refl _) _
  have HX : Hid (Six (w.alloc (.cells #[.int .u8 x0, .int .u8 x1, .int .u8 x2, .int .u8 x3, .int .u8 x4, .int .u8 x5] 67)) w.heap.size [x0, x1, x2, x3, x4, x5]) := Lib.hid (heap_alloc_new w _)
  have HB0 := Lib.hid hb0
  have HS := Lib.hid ((h.recol (c' := rc c w.heap.size 9) (fun _ hx => rc_old hx)).go hb0)
  have HC0 : Hid ((∀ z, z < w.heap.size → rc c w.heap.size 9 z = c z) ∧ ∀ z, w.heap.size ≤ z → rc c w.heap.size 9 z = 9) := Lib.hid ⟨fun _ hx => rc_old hx, fun _ hx => rc_new hx⟩
  have hAU := h.len
  have HI := Lib.hid h.ins
  have hsm := h.ar.small
  have hqlt := h.mr.lt
  generalize rc c w.heap.size 9 = c0 at *
  clear h hb0 hx
  go_enter Try.func33, Try.ntmps33
  go_wp2_with fail
  generalize w.alloc (.cells #[.int .u8 x0, .int .u8 x1, .int .u8 x2, .int .u8 x3, .int .u8 x4, .int .u8 x5] 67) = w1 at *
  refine (extent_any c0 q g2 U bs x1 x2 w1 HS.out.mr HI.out (by omega) ⟨l1, u1⟩ ⟨l2, u2⟩).mono ?_
  rintro e w2 ⟨x, y, rfl, ⟨bx0, bx1⟩, ⟨by0, by1⟩, hb⟩
  have hb2 : Below w1.heap.size w1 (w2.alloc (.cells #[.int .i64 x, .int .i64 y] 31)) := hb.alloc hb.size _
  have HE3 := Lib.hid (Box.new (w := w2) (x := x) (y := y))
  have HX3 := Lib.hid (HX.out.go hb2)
  have HB3 := Lib.hid (Below.then HB0.out hb2 (Nat.le_refl _))
  have HS3 := Lib.hid (HS.out.go hb2)
  have hw2 : w.heap.size ≤ w2.heap.size := Nat.le_trans HB0.out.size hb.size
  clear hb hb2 HX HS HB0
  have z3 := HX3.out.cell (i := 3) rfl
  go_wp2_with fail
  generalize w2.alloc (.cells #[.int .i64 x, .int .i64 y] 31) = w3 at *
  generalize ht : w2.heap.size = t at *
  clear ht w2
  clear z3
  refine (off_any x3 w3 ⟨l3, u3⟩).mono ?_
  rintro e w4 ⟨rfl, hb⟩
  have HE4 := Lib.hid (HE3.out.go hb)
  have HX4 := Lib.hid (HX3.out.go hb)
  have HB4 := Lib.hid (Below.then HB3.out hb (Nat.le_refl _))
  have HS4 := Lib.hid (HS3.out.go hb)
  clear hb HE3 HX3 HB3 HS3
  have hk : -9 ≤ offV x3 ∧ offV x3 ≤ 23 := by unfold offV; omega
  obtain ⟨k0, k1⟩ := hk
  generalize offV x3 = k at *
  have z0 := HX4.out.cell (i := 0) rfl
  have z4 := HX4.out.cell (i := 4) rfl
  have z5 := HX4.out.cell (i := 5) rfl
  have hb4 : w.heap.size ≤ w4.heap.size := HB4.out.size
  have hj : x4 % 5 = 0 ∨ x4 % 5 = 1 ∨ x4 % 5 = 2 ∨ x4 % 5 = 3 ∨ x4 % 5 = 4 := by omega
  have hz4 : w.heap.size < w4.heap.size := HX4.out.lt
  have hb5 : Below w4.heap.size w4 (w4.alloc (.cells #[.int .i64 1, .int .i64 2, .int .i64 4, .int .i64 8, .int .i64 (x4 % 11)] 3)) := (Below.refl _ _).alloc (Nat.le_refl _) _
  have hcd : ∃ N : Nat, N ≤ 10 ∧ (w4.alloc (.cells #[.int .i64 1, .int .i64 2, .int .i64 4, .int .i64 8, .int .i64 (x4 % 11)] 3)).cell? ⟨w4.heap.size, (x4 % 5).toNat, none⟩ = some (.int .i64 N) := by
    have hnew := fun i => cell_of_row (w4.alloc (.cells #[.int .i64 1, .int .i64 2, .int .i64 4, .int .i64 8, .int .i64 (x4 % 11)] 3)) w4.heap.size i _ _ _ (heap_alloc_new w4 _)
    obtain ⟨M, hM⟩ : ∃ M : Nat, x4 % 11 = M := ⟨(x4 % 11).toNat, by omega⟩
    rcases hj with h | h | h | h | h
    · exact ⟨1, by omega, by rw [h, hnew]; rfl⟩
    · exact ⟨2, by omega, by rw [h, hnew]; rfl⟩
    · exact ⟨4, by omega, by rw [h, hnew]; rfl⟩
    · exact ⟨8, by omega, by rw [h, hnew]; rfl⟩
    · exact ⟨M, by omega, by rw [h, hnew, ← hM]; rfl⟩
  obtain ⟨N, hN, hcd⟩ := hcd
  have hj0 : 0 ≤ x4 % 5 := by omega
  have hj1 : x4 % 5 < 5 := by omega
  clear hj
  have z4' := cell_under z4 (.cells #[.int .i64 1, .int .i64 2, .int .i64 4, .int .i64 8, .int .i64 (x4 % 11)] 3)
  have z5' := cell_under z5 (.cells #[.int .i64 1, .int .i64 2, .int .i64 4, .int .i64 8, .int .i64 (x4 % 11)] 3)
  have HE5 := Lib.hid (HE4.out.go hb5)
  have HB5 := Lib.hid (Below.then HB4.out hb5 (Nat.le_refl _))
  have HS5 := Lib.hid (HS4.out.go hb5)
  clear hb5
  have d0 := HE5.out.cell0
  have d1 := HE5.out.cell1
  go_wp2_with fail
  generalize w4.alloc (.cells #[.int .i64 1, .int .i64 2, .int .i64 4, .int .i64 8, .int .i64 (x4 % 11)] 3) = w5 at *
  clear hcd z0 z4 z5 z4' z5' HE4 HB4 HS4 HX4 d0 d1
  refine (loadA_any c0 a p g F A bs x y k N w5 HS5.out.ar HS5.out.gd (by omega)).mono ?_
  rintro e w6 ⟨rfl, hb⟩
  rw [ldR_p HS5.out.pm, numC_p HS5.out.pm]
  generalize hv : ldR U bs x y k N = V at *
  generalize hr : numC U x y k N = r at *
  have HV := Lib.hid hv
  have HR := Lib.hid hr
  have HE6 := Lib.hid (HE5.out.go hb)
  have HB6 := Lib.hid (Below.then HB5.out hb (Nat.le_refl _))
  have HS6 := Lib.hid (HS5.out.go hb)
  have e0 := HE6.out.cell0
  have e1 := HE6.out.cell1
  clear hv hr hb HE5 HB5 HS5
  go_wp2_with fail
  refine (loadM_any c0 q g2 U bs x y k N w6 HS6.out.mr HI.out (by omega)).mono ?_
  rintro e w7 ⟨rfl, hb⟩
  rw [HV.out, HR.out]
  have HB7 := Lib.hid (Below.then HB6.out hb (Nat.le_refl _))
  have HS7 := Lib.hid (HS6.out.go hb)
  clear hb e0 e1 HE6 HB6 HS6
  go_wp2
  go_ret
  exact stE (Pos.start HS7.out (Below.refl _ _)) HS7.out.gd HS7.out.pm HS7.out.zf rfl (by omega) HB7.out HC0.out.1
end Go.Proofs.Ytfchccgajcjbbaa
