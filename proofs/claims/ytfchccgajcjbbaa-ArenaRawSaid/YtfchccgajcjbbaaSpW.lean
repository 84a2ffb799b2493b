/-
  Contract of the laws' step of layer 7, where it writes, reads or copies. Conditions: at most eight hundred extents.
-/
import Derived.Test.YtfchccgajcjbbaaSrt
namespace Go.Proofs.Ytfchccgajcjbbaa
open Go.ChangeShapes Go.WideShapes Go.ChangeAt Go.RowKit
set_option maxHeartbeats 8000000
set_option maxRecDepth 100000

theorem step_write (x0 x1 x2 x3 x4 x5 : Int) (w : World) (c : Nat → Nat) (a p g q g2 : Nat) (F A U : List (Int × Int)) (bs : List Int) (h : Sr w c a p g q g2 F A U bs) (hU : U.length ≤ 800) (hx : ∀ x ∈ [x0, x1, x2, x3, x4, x5], 0 ≤ x ∧ x ≤ 255) (h9 : x0 % 9 = 6) :
    Calls Try.prog 33 #[.pointer (some ⟨a, 0, none⟩), .pointer (some ⟨q, 0, none⟩), .agg #[.int .u8 x0, .int .u8 x1, .int .u8 x2, .int .u8 x3, .int .u8 x4, .int .u8 x5]] w (StE w c a p g q g2 U bs.length) := by
  obtain ⟨l0, u0⟩ := hx x0 (by simp)
  obtain ⟨l1, u1⟩ := hx x1 (by simp)
  obtain ⟨l2, u2⟩ := hx x2 (by simp)
  obtain ⟨l3, u3⟩ := hx x3 (by simp)
  obtain ⟨l4, u4⟩ := hx x4 (by simp)
  obtain ⟨l5, u5⟩ := hx x5 (by simp)
  have hb0 : Below w.heap.size w (w.alloc (.cells #[.int .u8 x0, .int .u8 x1, .int .u8 x2, .int .u8 x3, .int .u8 x4, .int .u8 x5] 67)) := (Below.refl _ _).alloc (Nat.le_refl _) _
  have HX : Hid (Six (w.alloc (.cells #[.int .u8 x0, .int .u8 x1, .int .u8 x2, .int .u8 x3, .int .u8 x4, .int .u8 x5] 67)) w.heap.size [x0, x1, x2, x3, x4, x5]) := Lib.hid (heap_alloc_new w _)
  have HB0 := Lib.hid hb0
  have HS := Lib.hid ((h.recol (c' := rc c w.heap.size 9) (fun _ hx => rc_old hx)).go hb0)
  have HC0 : Hid ((∀ z, z < w.heap.size → rc c w.heap.size 9 z = c z) ∧ ∀ z, w.heap.size ≤ z → rc c w.heap.size 9 z = 9) := Lib.hid ⟨fun _ hx => rc_old hx, fun _ hx => rc_new hx⟩
  have hAU := h.len
  have HI := Lib.hid h.ins
  have hsm := h.ar.small
  have hqlt := h.mr.lt
  generalize rc c w.heap.size 9 = c0 at *
  clear h hb0 hx
  go_enter Try.func33, Try.ntmps33
  go_wp2_with fail
  generalize w.alloc (.cells #[.int .u8 x0, .int .u8 x1, .int .u8 x2, .int .u8 x3, .int .u8 x4, .int .u8 x5] 67) = w1 at *
  refine (extent_any c0 q g2 U bs x1 x2 w1 HS.out.mr HI.out (by omega) ⟨l1, u1⟩ ⟨l2, u2⟩).mono ?_
  rintro e w2 ⟨x, y, rfl, ⟨bx0, bx1⟩, ⟨by0, by1⟩, hb⟩
  have hb2 : Below w1.heap.size w1 (w2.alloc (.cells #[.int .i64 x, .int .i64 y] 31)) := hb.alloc hb.size _
  have HE3 := Lib.hid (Box.new (w := w2) (x := x) (y := y))
  have HX3 := Lib.hid (HX.out.go hb2)
  have HB3 := Lib.hid (Below.then HB0.out hb2 (Nat.le_refl _))
  have HS3 := Lib.hid (HS.out.go hb2)
  have hw2 : w.heap.size ≤ w2.heap.size := Nat.le_trans HB0.out.size hb.size
  clear hb hb2 HX HS HB0
  have z3 := HX3.out.cell (i := 3) rfl
  go_wp2_with fail
  generalize w2.alloc (.cells #[.int .i64 x, .int .i64 y] 31) = w3 at *
  generalize ht : w2.heap.size = t at *
  clear ht w2
  clear z3
  refine (off_any x3 w3 ⟨l3, u3⟩).mono ?_
  rintro e w4 ⟨rfl, hb⟩
  have HE4 := Lib.hid (HE3.out.go hb)
  have HX4 := Lib.hid (HX3.out.go hb)
  have HB4 := Lib.hid (Below.then HB3.out hb (Nat.le_refl _))
  have HS4 := Lib.hid (HS3.out.go hb)
  clear hb HE3 HX3 HB3 HS3
  have hk : -9 ≤ offV x3 ∧ offV x3 ≤ 23 := by unfold offV; omega
  obtain ⟨k0, k1⟩ := hk
  generalize offV x3 = k at *
  have z0 := HX4.out.cell (i := 0) rfl
  have z4 := HX4.out.cell (i := 4) rfl
  have z5 := HX4.out.cell (i := 5) rfl
  have hb4 : w.heap.size ≤ w4.heap.size := HB4.out.size
  obtain ⟨i0, hi, hz0, hz1, hz2⟩ := infoU8
  obtain ⟨N, hN⟩ : ∃ N : Nat, x4 % 12 = N := ⟨(x4 % 12).toNat, by omega⟩
  have hN12 : N ≤ 11 := by omega
  have HINF := Lib.hid hi
  have HZ0 := Lib.hid hz0
  clear hi hz0
  go_wp2_with (first
    | (at_make; refine wpList_make_full _ rfl _ _ 40 rfl w4.heap.size 5 i0 _ 1 Try.underlying40 HINF.out HZ0.out hz1 _ _ _ _ N rfl rfl rfl rfl (by rw [hz2]; omega) (by unfold maxLen; omega) (Nat.le_refl _) ?_
       intro w5 hown hg
       have HB5' := Lib.hid ((Below.refl _ _).grown hg (Nat.le_refl _) (by simp) : Below w4.heap.size w4 w5)
       have HO5 := Lib.hid (byt_made hown)
       have hsz5 : w4.heap.size < w5.heap.size := HO5.out.lt
       have z5 := (HX4.out.go HB5'.out).cell (i := 5) rfl
       clear hown hg))
  have hb0 : w.heap.size ≤ w4.heap.size := hb4
  go_loopw [175] (fun iv wr => ∃ (i : Nat), i ≤ N ∧ iv = .int .i64 i ∧ Hid (∃ l : List Int, Byt wr w4.heap.size l ∧ l.length = N ∧ Fit .u8 l ∧ Below w4.heap.size w4 wr)) (fun iv _ => N - (intOf iv).toNat)
  case atStart => exact ⟨0, by omega, rfl, Lib.hid ⟨_, HO5.out, by simp, fit_zero, HB5'.out⟩⟩
  case round =>
    obtain ⟨i, hi, rfl, hh⟩ := hrel
    obtain ⟨l, hB, hl, hF, hbw⟩ := hh.out
    have HX6 := Lib.hid (HX4.out.go hbw)
    have HE6 := Lib.hid (HE4.out.go hbw)
    by_cases hlt : i < N
    · have hlt' : (i : Int) < (N : Int) := by omega
      have hc := hB.cell (i := i) (by omega)
      have hf := hB.thawed i
      have z5 := HX6.out.cell (i := 5) rfl
      have HST : Hid (∀ u : Int, (Lit.int .u8 u).wf = true → ∃ l' : List Int, Byt (wr.setCell ⟨w4.heap.size, i, none⟩ (.int .u8 u)) w4.heap.size l' ∧ l'.length = N ∧ Fit .u8 l' ∧ Below w4.heap.size w4 (wr.setCell ⟨w4.heap.size, i, none⟩ (.int .u8 u))) :=
        Lib.hid fun u hu => ⟨l.set i u, hB.set i u, by simpa using hl, fit_set hF hu, hbw.setCell (p := ⟨w4.heap.size, i, none⟩) (Nat.le_refl _) _⟩
      clear hh hB hF hbw hl
      go_wp2
      go_roundw
      case rel => exact ⟨i + 1, by omega, by go_num, Lib.hid (HST.out _ (by go_wf))⟩
      case measure => simp [intOf]; omega
    · obtain rfl : i = N := by omega
      have HBY := Lib.hid hB
      have HF := Lib.hid hF
      have HLL := Lib.hid hl
      have HB6 := Lib.hid (Below.then HB4.out hbw (Nat.le_refl _))
      have HS6 := Lib.hid (HS4.out.go hbw)
      have hw6 : w4.heap.size < wr.heap.size := hB.lt
      clear hh hB hF hl hbw
      have htb : c0 t = 9 := HC0.out.2 t hw2
      have hbb : c0 w4.heap.size = 9 := HC0.out.2 _ hb0
      have hlm : i ≤ 1048576 := by omega
      obtain ⟨C, hC⟩ : ∃ C, C = C3 (Pos wr c0 a p g q g2 F A bs U bs) (Pos wr c0 a p g q g2 F A (wrB A bs x y k l) U bs) (Pos wr c0 a p g q g2 F A (wrB A bs x y k l) U (wrB U bs x y k l)) := ⟨_, rfl⟩
      have hK : ∀ s w', C s w' → ∀ z, z < wr.heap.size → ¬ Sa (c0 z) → w'.heap[z]? = wr.heap[z]? := by
        rw [hC]
        exact c3_all (fun _ h z => h.block) (fun _ h z => h.block) (fun _ h z => h.block)
      have e0 : ∀ m : InSome C, m.val.cell? ⟨t, 0, none⟩ = some (.int .i64 x) := fun m => (some_box HE6.out hK htb m).cell0
      have e1 : ∀ m : InSome C, m.val.cell? ⟨t, 1, none⟩ = some (.int .i64 y) := fun m => (some_box HE6.out hK htb m).cell1
      have HP := Lib.hid (show C 0 (wr.drewN 1) by rw [hC]; exact Pos.start HS6.out (below_drewN (Below.refl _ _) 1))
      have hne : Nonempty (InSome C) := ⟨⟨_, 0, HP.out⟩⟩
      have HRW : Hid (∀ s w', C s w' → Row w' w'.heap.size (some ⟨w4.heap.size, 0, none⟩) i i (iv .u8 l)) := Lib.hid (fun s w' h => by
        have h1 : Byt w' w4.heap.size l := (hK s w' h _ hw6 (by rw [hbb]; exact sa_9)).trans HBY.out
        have h2 := h1.row (by rw [HLL.out]; exact hlm)
        rw [HLL.out] at h2
        exact h2)
      have H1 : Hid (∀ w', C 0 w' → Calls Try.prog 22 #[.pointer (some ⟨a, 0, none⟩), .agg #[.int .i64 x, .int .i64 y], .int .i64 k, .slice (some ⟨w4.heap.size, 0, none⟩) i i] w' fun e w'' => e = .returned (.int .i64 (bytC A x y k i)) ∧ C 1 w'') :=
        Lib.hid (fun w' h => by
          have hr := HRW.out 0 w' h
          rw [hC] at h ⊢
          exact Pos.run_prog (w := wr) (c := c0) (b1 := bs) (b2 := bs) h (fun c' h' => write_any c' a p g F A bs x y k _ i i l w' h' HS6.out.gd (by omega) hr HF.out))
      have H2 : Hid (∀ w', C 1 w' → Calls Try.prog 23 #[.pointer (some ⟨q, 0, none⟩), .agg #[.int .i64 x, .int .i64 y], .int .i64 k, .slice (some ⟨w4.heap.size, 0, none⟩) i i] w' fun e w'' => e = .returned (.int .i64 (bytC U x y k i)) ∧ C 2 w'') :=
        Lib.hid (fun w' h => by
          have hr := HRW.out 1 w' h
          rw [hC] at h ⊢
          exact Pos.run_model2 (w := wr) (c := c0) (b1 := wrB A bs x y k l) (b2 := bs) h (fun c' h' hc' => writeR_any c' q g2 U bs x y k _ i i l w' h' HI.out (by omega) hr HF.out (fun b o e _ => by
            cases e
            rw [hc' _ hw6, hbb]; omega)))
      have HD : Hid (∀ w', C 2 w' → StE w c a p g q g2 U bs.length (.returned (.bool true)) w') := Lib.hid (by
        rw [hC]
        intro w' h
        have h' : Pos wr c0 a p g q g2 F A (wrB A bs x y k l) U (wrB U bs x y k l) w' := h
        rw [← wrB_p HS6.out.pm] at h'
        exact stE h' (by rw [wrB_len]; exact HS6.out.gd) HS6.out.pm (zf_wrB HS6.out.zf HS6.out.gd) wrB_len (by omega) HB6.out HC0.out.1)
      have hcc : bytC A x y k i = bytC U x y k i := bytC_p HS6.out.pm x y k i
      rw [hcc] at H1
      generalize bytC U x y k i = r at *
      clear hcc hC hK HS6 HE6 HX6 HB6 HRW HX4 HE4 HS4 HB4 HB5' HO5
      go_wp2
      refine wp_region_staged [4, 9] C (by kernel_rfl) (by kernel_rfl) HP.out ?_
      refine lexT_seg 4 (by kernel_rfl) ?_
      simp only [List.take_succ_cons, List.take_zero, List.drop_succ_cons, List.drop_zero]
      repeat (go_big_quiet_step (fail))
      refine wpQuiet_nil ?_
      refine lexT_do H1.out Try.func22 (by kernel_rfl) rfl (by kernel_rfl) (by kernel_rfl) ?_
      simp only [Act.put, List.setIfInBounds_toArray, List.set_cons_succ, List.set_cons_zero]
      refine lexT_seg 4 (by kernel_rfl) ?_
      simp only [List.take_succ_cons, List.take_zero, List.drop_succ_cons, List.drop_zero]
      repeat (go_big_quiet_step (fail))
      refine wpQuiet_nil ?_
      refine lexT_do H2.out Try.func23 (by kernel_rfl) rfl (by kernel_rfl) (by kernel_rfl) ?_
      simp only [Act.put, List.setIfInBounds_toArray, List.set_cons_succ, List.set_cons_zero]
      refine lexT_seg 2 (by kernel_rfl) ?_
      simp only [List.take_succ_cons, List.take_zero, List.drop_succ_cons, List.drop_zero]
      repeat (go_big_quiet_step (fail))
      refine wpQuiet_nil ?_
      refine lexT_nil ?_
      intro w7 hw7
      have HW := Lib.hid (HD.out w7 hw7)
      clear hw7 HD H1 H2 HP e0 e1 hne
      go_wp2
      go_ret
      exact HW.out

theorem step_read (x0 x1 x2 x3 x4 x5 : Int) (w : World) (c : Nat → Nat) (a p g q g2 : Nat) (F A U : List (Int × Int)) (bs : List Int) (h : Sr w c a p g q g2 F A U bs) (hU : U.length ≤ 800) (hx : ∀ x ∈ [x0, x1, x2, x3, x4, x5], 0 ≤ x ∧ x ≤ 255) (h9 : x0 % 9 = 7) :
    Calls Try.prog 33 #[.pointer (some ⟨a, 0, none⟩), .pointer (some ⟨q, 0, none⟩), .agg #[.int .u8 x0, .int .u8 x1, .int .u8 x2, .int .u8 x3, .int .u8 x4, .int .u8 x5]] w (StE w c a p g q g2 U bs.length) := by
  obtain ⟨l0, u0⟩ := hx x0 (by simp)
  obtain ⟨l1, u1⟩ := hx x1 (by simp)
  obtain ⟨l2, u2⟩ := hx x2 (by simp)
  obtain ⟨l3, u3⟩ := hx x3 (by simp)
  obtain ⟨l4, u4⟩ := hx x4 (by simp)
  obtain ⟨l5, u5⟩ := hx x5 (by simp)
  have hb0 : Below w.heap.size w (w.alloc (.cells #[.int .u8 x0, .int .u8 x1, .int .u8 x2, .int .u8 x3, .int .u8 x4, .int .u8 x5] 67)) := (Below.refl _ _).alloc (Nat.le_refl _) _
  have HX : Hid (Six (w.alloc (.cells #[.int .u8 x0, .int .u8 x1, .int .u8 x2, .int .u8 x3, .int .u8 x4, .int .u8 x5] 67)) w.heap.size [x0, x1, x2, x3, x4, x5]) := Lib.hid (heap_alloc_new w _)
  have HB0 := Lib.hid hb0
  have HS := Lib.hid ((h.recol (c' := rc c w.heap.size 9) (fun _ hx => rc_old hx)).go hb0)
  have HC0 : Hid ((∀ z, z < w.heap.size → rc c w.heap.size 9 z = c z) ∧ ∀ z, w.heap.size ≤ z → rc c w.heap.size 9 z = 9) := Lib.hid ⟨fun _ hx => rc_old hx, fun _ hx => rc_new hx⟩
  have hAU := h.len
  have HI := Lib.hid h.ins
  have hsm := h.ar.small
  have hqlt := h.mr.lt
  generalize rc c w.heap.size 9 = c0 at *
  clear h hb0 hx
  go_enter Try.func33, Try.ntmps33
  go_wp2_with fail
  generalize w.alloc (.cells #[.int .u8 x0, .int .u8 x1, .int .u8 x2, .int .u8 x3, .int .u8 x4, .int .u8 x5] 67) = w1 at *
  refine (extent_any c0 q g2 U bs x1 x2 w1 HS.out.mr HI.out (by omega) ⟨l1, u1⟩ ⟨l2, u2⟩).mono ?_
  rintro e w2 ⟨x, y, rfl, ⟨bx0, bx1⟩, ⟨by0, by1⟩, hb⟩
  have hb2 : Below w1.heap.size w1 (w2.alloc (.cells #[.int .i64 x, .int .i64 y] 31)) := hb.alloc hb.size _
  have HE3 := Lib.hid (Box.new (w := w2) (x := x) (y := y))
  have HX3 := Lib.hid (HX.out.go hb2)
  have HB3 := Lib.hid (Below.then HB0.out hb2 (Nat.le_refl _))
  have HS3 := Lib.hid (HS.out.go hb2)
  have hw2 : w.heap.size ≤ w2.heap.size := Nat.le_trans HB0.out.size hb.size
  clear hb hb2 HX HS HB0
  have z3 := HX3.out.cell (i := 3) rfl
  go_wp2_with fail
  generalize w2.alloc (.cells #[.int .i64 x, .int .i64 y] 31) = w3 at *
  generalize ht : w2.heap.size = t at *
  clear ht w2
  clear z3
  refine (off_any x3 w3 ⟨l3, u3⟩).mono ?_
  rintro e w4 ⟨rfl, hb⟩
  have HE4 := Lib.hid (HE3.out.go hb)
  have HX4 := Lib.hid (HX3.out.go hb)
  have HB4 := Lib.hid (Below.then HB3.out hb (Nat.le_refl _))
  have HS4 := Lib.hid (HS3.out.go hb)
  clear hb HE3 HX3 HB3 HS3
  have hk : -9 ≤ offV x3 ∧ offV x3 ≤ 23 := by unfold offV; omega
  obtain ⟨k0, k1⟩ := hk
  generalize offV x3 = k at *
  have z0 := HX4.out.cell (i := 0) rfl
  have z4 := HX4.out.cell (i := 4) rfl
  have z5 := HX4.out.cell (i := 5) rfl
  have hb4 : w.heap.size ≤ w4.heap.size := HB4.out.size
  have hn : x4 % 20 - 1 ≤ 9223372036854775807 := by omega
  have d0 := HE4.out.cell0
  have d1 := HE4.out.cell1
  go_wp2_with fail
  clear z0 z5 d0 d1
  refine (read_any c0 a p g F A bs x y k (x4 % 20 - 1) w4 HS4.out.ar HS4.out.gd (by omega) hn).mono ?_
  rintro e w5 ⟨v1, rfl, ho, hb⟩
  rw [rdL_p HS4.out.pm] at ho
  rw [bytC_p HS4.out.pm]
  obtain ⟨A1, n1, d1, rfl, hr1⟩ := ho.shape
  obtain ⟨T, hT⟩ : ∃ T, strOfNums (rdL U bs x y k (x4 % 20 - 1)) = T := ⟨_, rfl⟩
  have HT := Lib.hid hT
  have HR1 := Lib.hid hr1
  have HE5 := Lib.hid (HE4.out.go hb)
  have HX5 := Lib.hid (HX4.out.go hb)
  have HB5 := Lib.hid (Below.then HB4.out hb (Nat.le_refl _))
  have HS5 := Lib.hid (HS4.out.go hb)
  clear hb HE4 HX4 HB4 HS4 ho hr1 hT z4
  have e0 := HE5.out.cell0
  have e1 := HE5.out.cell1
  have z4 := HX5.out.cell (i := 4) rfl
  generalize hbc : bytC U x y k (x4 % 20 - 1) = r at *
  have HBC := Lib.hid hbc
  clear hbc
  go_wp2_with fail
  refine (readR_any c0 q g2 U bs x y k (x4 % 20 - 1) w5 HS5.out.mr HI.out (by omega) hn).mono ?_
  rintro e w6 ⟨v2, rfl, ho, hb⟩
  rw [HBC.out]
  obtain ⟨A2, n2, d2, rfl, hr2⟩ := ho.shape
  have HR1' := Lib.hid (HR1.out.go hb)
  have HB6 := Lib.hid (Below.then HB5.out hb (Nat.le_refl _))
  have HS6 := Lib.hid (HS5.out.go hb)
  have t1 := HR1'.out.text HT.out
  have t2 := hr2.text HT.out
  clear hb e0 e1 z4 ho hr2 HR1 HE5 HB5 HS5
  go_wp2
  go_ret
  exact stE (Pos.start HS6.out (Below.refl _ _)) HS6.out.gd HS6.out.pm HS6.out.zf rfl (by omega) HB6.out HC0.out.1

theorem step_copy (x0 x1 x2 x3 x4 x5 : Int) (w : World) (c : Nat → Nat) (a p g q g2 : Nat) (F A U : List (Int × Int)) (bs : List Int) (h : Sr w c a p g q g2 F A U bs) (hU : U.length ≤ 800) (hx : ∀ x ∈ [x0, x1, x2, x3, x4, x5], 0 ≤ x ∧ x ≤ 255) (h9 : x0 % 9 = 8) :
    Calls Try.prog 33 #[.pointer (some ⟨a, 0, none⟩), .pointer (some ⟨q, 0, none⟩), .agg #[.int .u8 x0, .int .u8 x1, .int .u8 x2, .int .u8 x3, .int .u8 x4, .int .u8 x5]] w (StE w c a p g q g2 U bs.length) := by
  obtain ⟨l0, u0⟩ := hx x0 (by simp)
  obtain ⟨l1, u1⟩ := hx x1 (by simp)
  obtain ⟨l2, u2⟩ := hx x2 (by simp)
  obtain ⟨l3, u3⟩ := hx x3 (by simp)
  obtain ⟨l4, u4⟩ := hx x4 (by simp)
  obtain ⟨l5, u5⟩ := hx x5 (by simp)
  have hb0 : Below w.heap.size w (w.alloc (.cells #[.int .u8 x0, .int .u8 x1, .int .u8 x2, .int .u8 x3, .int .u8 x4, .int .u8 x5] 67)) := (Below.refl _ _).alloc (Nat.le_refl _) _
  have HX : Hid (Six (w.alloc (.cells #[.int .u8 x0, .int .u8 x1, .int .u8 x2, .int .u8 x3, .int .u8 x4, .int .u8 x5] 67)) w.heap.size [x0, x1, x2, x3, x4, x5]) := Lib.hid (heap_alloc_new w _)
  have HB0 := Lib.hid hb0
  have HS := Lib.hid ((h.recol (c' := rc c w.heap.size 9) (fun _ hx => rc_old hx)).go hb0)
  have HC0 : Hid ((∀ z, z < w.heap.size → rc c w.heap.size 9 z = c z) ∧ ∀ z, w.heap.size ≤ z → rc c w.heap.size 9 z = 9) := Lib.hid ⟨fun _ hx => rc_old hx, fun _ hx => rc_new hx⟩
  have hAU := h.len
  have HI := Lib.hid h.ins
  have hsm := h.ar.small
  have hqlt := h.mr.lt
  generalize rc c w.heap.size 9 = c0 at *
  clear h hb0 hx
  go_enter Try.func33, Try.ntmps33
  go_wp2_with fail
  generalize w.alloc (.cells #[.int .u8 x0, .int .u8 x1, .int .u8 x2, .int .u8 x3, .int .u8 x4, .int .u8 x5] 67) = w1 at *
  refine (extent_any c0 q g2 U bs x1 x2 w1 HS.out.mr HI.out (by omega) ⟨l1, u1⟩ ⟨l2, u2⟩).mono ?_
  rintro e w2 ⟨x, y, rfl, ⟨bx0, bx1⟩, ⟨by0, by1⟩, hb⟩
  have hb2 : Below w1.heap.size w1 (w2.alloc (.cells #[.int .i64 x, .int .i64 y] 31)) := hb.alloc hb.size _
  have HE3 := Lib.hid (Box.new (w := w2) (x := x) (y := y))
  have HX3 := Lib.hid (HX.out.go hb2)
  have HB3 := Lib.hid (Below.then HB0.out hb2 (Nat.le_refl _))
  have HS3 := Lib.hid (HS.out.go hb2)
  have hw2 : w.heap.size ≤ w2.heap.size := Nat.le_trans HB0.out.size hb.size
  clear hb hb2 HX HS HB0
  have z3 := HX3.out.cell (i := 3) rfl
  go_wp2_with fail
  generalize w2.alloc (.cells #[.int .i64 x, .int .i64 y] 31) = w3 at *
  generalize ht : w2.heap.size = t at *
  clear ht w2
  clear z3
  refine (off_any x3 w3 ⟨l3, u3⟩).mono ?_
  rintro e w4 ⟨rfl, hb⟩
  have HE4 := Lib.hid (HE3.out.go hb)
  have HX4 := Lib.hid (HX3.out.go hb)
  have HB4 := Lib.hid (Below.then HB3.out hb (Nat.le_refl _))
  have HS4 := Lib.hid (HS3.out.go hb)
  clear hb HE3 HX3 HB3 HS3
  have hk : -9 ≤ offV x3 ∧ offV x3 ≤ 23 := by unfold offV; omega
  obtain ⟨k0, k1⟩ := hk
  generalize offV x3 = k at *
  have z0 := HX4.out.cell (i := 0) rfl
  have z4 := HX4.out.cell (i := 4) rfl
  have z5 := HX4.out.cell (i := 5) rfl
  have hb4 : w.heap.size ≤ w4.heap.size := HB4.out.size
  have d0 := z5
  go_wp2_with fail
  clear d0
  have hx4 : 0 ≤ x4 ∧ x4 ≤ 255 := ⟨l4, u4⟩
  refine (extent_any c0 q g2 U bs x5 x5 w4 HS4.out.mr HI.out (by omega) ⟨l5, u5⟩ ⟨l5, u5⟩).mono ?_
  rintro e w5 ⟨u, v, rfl, ⟨bu0, bu1⟩, ⟨bv0, bv1⟩, hb⟩
  have hb2 : Below w4.heap.size w4 (w5.alloc (.cells #[.int .i64 u, .int .i64 v] 31)) := hb.alloc hb.size _
  have HD6 := Lib.hid (Box.new (w := w5) (x := u) (y := v))
  have HE6 := Lib.hid (HE4.out.go hb2)
  have HX6 := Lib.hid (HX4.out.go hb2)
  have HB6 := Lib.hid (Below.then HB4.out hb2 (Nat.le_refl _))
  have HS6 := Lib.hid (HS4.out.go hb2)
  have hw5 : w.heap.size ≤ w5.heap.size := Nat.le_trans hb4 hb.size
  clear hb hb2 HE4 HX4 HB4 HS4 z0 z4 z5
  go_wp2
  generalize w5.alloc (.cells #[.int .i64 u, .int .i64 v] 31) = w6 at *
  generalize ht2 : w5.heap.size = t2 at *
  clear ht2
  have htb : c0 t = 9 := HC0.out.2 t hw2
  have htd : c0 t2 = 9 := HC0.out.2 t2 hw5
  have htx : c0 w.heap.size = 9 := HC0.out.2 _ (Nat.le_refl _)
  obtain ⟨n, hn⟩ : ∃ n, x5 % 14 - 1 = n := ⟨_, rfl⟩
  obtain ⟨k2, hk2⟩ : ∃ k2, offV x4 = k2 := ⟨_, rfl⟩
  have hnb : -1 ≤ n ∧ n ≤ 12 := by omega
  have HK2 := Lib.hid hk2
  obtain ⟨C, hC⟩ : ∃ C, C = C5 (Pos w6 c0 a p g q g2 F A bs U bs) (Pos w6 c0 a p g q g2 F A (cpB A bs x y k u v k2 n) U bs) (Pos w6 c0 a p g q g2 F A (cpB A bs x y k u v k2 n) U (cpB U bs x y k u v k2 n)) := ⟨_, rfl⟩
  have hK : ∀ s w', C s w' → ∀ z, z < w6.heap.size → ¬ Sa (c0 z) → w'.heap[z]? = w6.heap[z]? := by
    rw [hC]
    exact c5_all (fun _ h z => h.block) (fun _ h z => h.block) (fun _ h z => h.block)
  have e0 : ∀ m : InSome C, m.val.cell? ⟨t, 0, none⟩ = some (.int .i64 x) := fun m => (some_box HE6.out hK htb m).cell0
  have e1 : ∀ m : InSome C, m.val.cell? ⟨t, 1, none⟩ = some (.int .i64 y) := fun m => (some_box HE6.out hK htb m).cell1
  have e2 : ∀ m : InSome C, m.val.cell? ⟨t2, 0, none⟩ = some (.int .i64 u) := fun m => (some_box HD6.out hK htd m).cell0
  have e3 : ∀ m : InSome C, m.val.cell? ⟨t2, 1, none⟩ = some (.int .i64 v) := fun m => (some_box HD6.out hK htd m).cell1
  have e4 : ∀ m : InSome C, m.val.cell? ⟨w.heap.size, 4, none⟩ = some (.int .u8 x4) := fun m => (some_six HX6.out hK htx m).cell rfl
  have e5 : ∀ m : InSome C, m.val.cell? ⟨w.heap.size, 5, none⟩ = some (.int .u8 x5) := fun m => (some_six HX6.out hK htx m).cell rfl
  have HP := Lib.hid (show C 0 (w6.drewN 1) by rw [hC]; exact Pos.start HS6.out (below_drewN (Below.refl _ _) 1))
  have hne : Nonempty (InSome C) := ⟨⟨_, 0, HP.out⟩⟩
  have HO1 : Hid (∀ w', C 0 w' → Calls Try.prog 30 #[.int .u8 x4] w' fun e w'' => e = .returned (.int .i64 k2) ∧ C 1 w'') :=
    Lib.hid (by rw [hC]; exact fun w' h => (off_any x4 w' hx4).mono (fun e w'' ⟨he, hb⟩ => ⟨by rw [he, HK2.out], Pos.go (w := w6) (c := c0) (b1 := bs) (b2 := bs) h hb⟩))
  have HO2 : Hid (∀ w', C 2 w' → Calls Try.prog 30 #[.int .u8 x4] w' fun e w'' => e = .returned (.int .i64 k2) ∧ C 3 w'') :=
    Lib.hid (by rw [hC]; exact fun w' h => (off_any x4 w' hx4).mono (fun e w'' ⟨he, hb⟩ => ⟨by rw [he, HK2.out], Pos.go (w := w6) (c := c0) (b1 := cpB A bs x y k u v k2 n) (b2 := bs) h hb⟩))
  have H1 : Hid (∀ w', C 1 w' → Calls Try.prog 20 #[.pointer (some ⟨a, 0, none⟩), .agg #[.int .i64 x, .int .i64 y], .int .i64 k, .agg #[.int .i64 u, .int .i64 v], .int .i64 k2, .int .i64 n] w' fun e w'' => e = .returned (.int .i64 (cpC A x y k u v k2 n)) ∧ C 2 w'') :=
    Lib.hid (by rw [hC]; exact fun w' h => Pos.run_prog (w := w6) (c := c0) (b1 := bs) (b2 := bs) h (fun c' h' => copy_any c' a p g F A bs x y k u v k2 n w' h' HS6.out.gd (by omega) (by omega)))
  have H2 : Hid (∀ w', C 3 w' → Calls Try.prog 21 #[.pointer (some ⟨q, 0, none⟩), .agg #[.int .i64 x, .int .i64 y], .int .i64 k, .agg #[.int .i64 u, .int .i64 v], .int .i64 k2, .int .i64 n] w' fun e w'' => e = .returned (.int .i64 (cpC U x y k u v k2 n)) ∧ C 4 w'') :=
    Lib.hid (by rw [hC]; exact fun w' h => Pos.run_model (w := w6) (c := c0) (b1 := cpB A bs x y k u v k2 n) (b2 := bs) h (fun c' h' => copyR_any c' q g2 U bs x y k u v k2 n w' h' HI.out (by omega) (by omega)))
  have HD : Hid (∀ w', C 4 w' → StE w c a p g q g2 U bs.length (.returned (.bool true)) w') := Lib.hid (by
    rw [hC]
    intro w' h
    have h' : Pos w6 c0 a p g q g2 F A (cpB A bs x y k u v k2 n) U (cpB U bs x y k u v k2 n) w' := h
    rw [← cpB_p HS6.out.pm] at h'
    exact stE h' (by rw [cpB_len]; exact HS6.out.gd) HS6.out.pm (zf_cpB HS6.out.zf HS6.out.gd) cpB_len (by omega) HB6.out HC0.out.1)
  have hcc : cpC A x y k u v k2 n = cpC U x y k u v k2 n := cpC_p HS6.out.pm x y k u v k2 n
  rw [hcc] at H1
  generalize cpC U x y k u v k2 n = r at *
  have hw1 : x5.tmod 14 = x5 % 14 := Int.tmod_eq_emod_of_nonneg l5
  have hw2 : IntKind.u8.wrap (x5 % 14) = x5 % 14 := by rw [IntKind.wrap_u8]; omega
  have hw3 : IntKind.i64.wrap (x5 % 14) = x5 % 14 := by rw [IntKind.wrap_i64]; omega
  have hw4 : IntKind.i64.wrap (x5 % 14 - 1) = n := by rw [IntKind.wrap_i64]; omega
  clear hcc hC hK HS6 HE6 HX6 HB6 HD6 hk2
  refine wp_region_staged [6, 12, 19, 25] C (by kernel_rfl) (by kernel_rfl) HP.out ?_
  refine lexT_seg 6 (by kernel_rfl) ?_
  simp only [List.take_succ_cons, List.take_zero, List.drop_succ_cons, List.drop_zero]
  repeat (go_big_quiet_step (fail))
  refine wpQuiet_nil ?_
  refine lexT_do HO1.out Try.func30 (by kernel_rfl) rfl (by kernel_rfl) (by kernel_rfl) ?_
  simp only [Act.put, List.setIfInBounds_toArray, List.set_cons_succ, List.set_cons_zero]
  refine lexT_seg 5 (by kernel_rfl) ?_
  simp only [List.take_succ_cons, List.take_zero, List.drop_succ_cons, List.drop_zero]
  repeat (go_big_quiet_step (fail))
  refine wpQuiet_nil ?_
  refine lexT_do H1.out Try.func20 (by kernel_rfl) rfl (by kernel_rfl) (by kernel_rfl) ?_
  simp only [Act.put, List.setIfInBounds_toArray, List.set_cons_succ, List.set_cons_zero]
  refine lexT_seg 6 (by kernel_rfl) ?_
  simp only [List.take_succ_cons, List.take_zero, List.drop_succ_cons, List.drop_zero]
  repeat (go_big_quiet_step (fail))
  refine wpQuiet_nil ?_
  refine lexT_do HO2.out Try.func30 (by kernel_rfl) rfl (by kernel_rfl) (by kernel_rfl) ?_
  simp only [Act.put, List.setIfInBounds_toArray, List.set_cons_succ, List.set_cons_zero]
  refine lexT_seg 5 (by kernel_rfl) ?_
  simp only [List.take_succ_cons, List.take_zero, List.drop_succ_cons, List.drop_zero]
  repeat (go_big_quiet_step (fail))
  refine wpQuiet_nil ?_
  refine lexT_do H2.out Try.func21 (by kernel_rfl) rfl (by kernel_rfl) (by kernel_rfl) ?_
  simp only [Act.put, List.setIfInBounds_toArray, List.set_cons_succ, List.set_cons_zero]
  refine lexT_seg 2 (by kernel_rfl) ?_
  simp only [List.take_succ_cons, List.take_zero, List.drop_succ_cons, List.drop_zero]
  repeat (go_big_quiet_step (fail))
  refine wpQuiet_nil ?_
  refine lexT_nil ?_
  intro w7 hw7
  have HW := Lib.hid (HD.out w7 hw7)
  clear hw7 HD H1 H2 HP e0 e1 hne
  go_wp2
  go_ret
  exact HW.out
end Go.Proofs.Ytfchccgajcjbbaa
