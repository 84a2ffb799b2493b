/-
  The law ArenaApart as a walk: it returns true and changes nothing that was there. No conditions.
-/
import Derived.Test.YtfchccgajcjbbaaApt
import Derived.Test.YtfchccgajcjbbaaAlk
namespace Go.Proofs.Ytfchccgajcjbbaa
open Go.ChangeShapes Go.WideShapes Go.ChangeAt Go.RowKit
set_option linter.unusedVariables false
set_option maxHeartbeats 16000000
set_option maxRecDepth 100000

theorem arenaApart_walk (r : Int) (At : Option Addr) (m ct : Nat) (at_ : Int) (Bt : Option Addr) (m2 ct2 : Nat) (w : World) (hr : (Lit.int .u8 r).wf = true) (ht : Hex w w.heap.size At m ct) (hat : (Lit.int .u8 at_).wf = true) (ht2 : Hex w w.heap.size Bt m2 ct2) :
    Calls Try.prog 6 #[.int .u8 r, .slice At m ct, .int .u8 at_, .slice Bt m2 ct2] w fun e w' => e = .returned (.bool true) ∧ Below w.heap.size w w' := by
  obtain ⟨t0, t1⟩ := byte_bd hat
  have H := Lib.hid (built_any r At m ct w (byte_bd hr) ht)
  have HM := Lib.hid ht2
  have hcap2 := ht2.cap
  have hsm2 := ht2.small
  unfold maxLen at hsm2
  clear hr ht hat ht2
  go_enter Try.func6, Try.ntmps6
  go_wp2_with fail
  refine H.out.mono ?_
  rintro e w1 ⟨c, a, p, g, q, g2, F, A, U, bs, rfl, hs, -, hu, hb, hc⟩
  have hAU := hs.len
  have HPM := Lib.hid hs.pm
  have HG := Lib.hid hs.gd
  have HZ := Lib.hid hs.zf
  have hsm := hs.ar.small
  have HS1 := Lib.hid (hs.recol (c' := rc c w1.heap.size 9) (fun x hx => rc_old hx))
  have HC4 : Hid ((∀ x, x < w.heap.size → rc c w1.heap.size 9 x = 0) ∧ ∀ x, w1.heap.size ≤ x → rc c w1.heap.size 9 x = 9) := Lib.hid ⟨fun x hx => (rc_old (by have := hb.size; omega)).trans (hc x hx), fun x hx => rc_new hx⟩
  generalize rc c w1.heap.size 9 = c4 at *
  have HB1 := Lib.hid hb
  have HI0 := Lib.hid hs.ins
  clear H hs hb hc
  go_wp2_with fail
  refine (extent_any c4 q g2 U bs at_ 0 w1 HS1.out.mr HI0.out (by omega) ⟨t0, t1⟩ (by omega)).mono ?_
  rintro e w2 ⟨x, y, rfl, ⟨x0, x1⟩, ⟨y0, y1⟩, hb⟩
  have hb3 : Below w1.heap.size w1 (w2.alloc (.cells #[.int .i64 x, .int .i64 y] 31)) := hb.alloc hb.size _
  have HE3 := Lib.hid (Box.new (w := w2) (x := x) (y := y))
  have HCT : Hid (c4 w2.heap.size = 9) := Lib.hid (HC4.out.2 _ hb.size)
  have HS3 := Lib.hid (HS1.out.go hb3)
  have HB3 := Lib.hid (Below.then HB1.out hb3 (by have := HB1.out.size; omega))
  have hN3 : w1.heap.size ≤ (w2.alloc (.cells #[.int .i64 x, .int .i64 y] 31)).heap.size := hb3.size
  clear hb hb3 HS1 HB1
  go_wp2_with fail
  generalize w2.alloc (.cells #[.int .i64 x, .int .i64 y] 31) = w3 at *
  generalize w2.heap.size = t at *
  refine (bytes_any c4 a p g F A bs w3 HS3.out.ar).mono ?_
  rintro e w4 ⟨vb, rfl, ho, hb⟩
  obtain ⟨A4, n4, d4, rfl, hr4⟩ := ho.shape
  have hn4 : n4 = bs.length := by have := hr4.len; rw [iv_len] at this; exact this.symm
  subst hn4
  have HR4 := Lib.hid hr4
  have HGE : Hid (∀ b o, A4 = some ⟨b, o, none⟩ → c4 b = 9) := Lib.hid (fun b o e => HC4.out.2 b (Nat.le_trans hN3 (ho.ge b o e)))
  have hcap4 := hr4.cap
  have hmax4 := hr4.small
  unfold maxLen at hmax4
  have HE4 := Lib.hid (HE3.out.go hb)
  have HS4 := Lib.hid (HS3.out.go hb)
  have HB4 := Lib.hid (Below.then HB3.out hb (Nat.le_refl _))
  have hN4 : w1.heap.size ≤ w4.heap.size := Nat.le_trans hN3 hb.size
  clear ho hb hr4 HE3 HS3 HB3
  have hqlt := HS4.out.mr.lt
  go_wp2
  go_loopw [14] (fun iv wr => ∃ (i : Nat), i ≤ m2 ∧ i ≤ 10 ∧ iv = .int .i64 i ∧ Hid (∃ b1, Ag x y bs b1 ∧ Pos w4 c4 a p g q g2 F A b1 U bs wr)) (fun iv _ => 10 - (intOf iv).toNat)
  case atStart => exact ⟨0, by omega, by omega, rfl, Lib.hid ⟨bs, ⟨rfl, fun _ _ => rfl⟩, Pos.start HS4.out (Below.refl _ _)⟩⟩
  case round =>
    obtain ⟨i, hi, hi10, rfl, hh⟩ := hrel
    by_cases hlt : i < m2 ∧ i < 10
    · obtain ⟨hlt, hlt10⟩ := hlt
      have hlt' : (i : Int) < (m2 : Int) := by omega
      have hlt10' : (i : Int) < 10 := by omega
      obtain ⟨b1, hag, hp⟩ := hh.out
      have HBR : Hid (Below w.heap.size w wr) := Lib.hid (Below.trans HB4.out (hp.ks.below (fun z hz => by rw [HC4.out.1 z hz]; exact sa_0) HB4.out.size))
      obtain ⟨b, o, x0', x1', x2', x3', x4', x5', rfl, hbw, e0, e1, e2, e3, e4, e5, hx⟩ := (HM.out.below HBR.out).cells i hlt
      obtain ⟨l1, u1⟩ := hx x1' (by simp)
      obtain ⟨l3, u3⟩ := hx x3' (by simp)
      obtain ⟨l4, u4⟩ := hx x4' (by simp)
      obtain ⟨l5, u5⟩ := hx x5' (by simp)
      have hbe := (hp.box9 HE4.out HCT.out)
      obtain ⟨c6, ha6, hm6, hk6, hc6, hn6⟩ := hp.ex
      have hb6 : Below wr.heap.size wr (wr.alloc (.cells #[.int .u8 x0', .int .u8 x1', .int .u8 x2', .int .u8 x3', .int .u8 x4', .int .u8 x5'] 67)) := (Below.refl _ _).alloc (Nat.le_refl _) _
      have HX6 : Hid (Six (wr.alloc (.cells #[.int .u8 x0', .int .u8 x1', .int .u8 x2', .int .u8 x3', .int .u8 x4', .int .u8 x5'] 67)) wr.heap.size [x0', x1', x2', x3', x4', x5']) := Lib.hid (heap_alloc_new wr _)
      have HCX : Hid (c6 wr.heap.size = 9 ∧ c6 t = 9) := Lib.hid ⟨hn6 _ (Nat.le_refl _), (hc6 t HE4.out.lt).trans HCT.out⟩
      have HE6 := Lib.hid (hbe.go hb6)
      have HA6 := Lib.hid (ha6.go hb6)
      have HM6 := Lib.hid (hm6.go hb6)
      have HK6 := Lib.hid (hk6.trans (KS.ofBelow hb6) hc6)
      have HC6 := Lib.hid hc6
      have HAG := Lib.hid hag
      clear hh hag hp hx hbe ha6 hm6 hk6 hc6 hn6 hb6
      go_wp2_with fail
      generalize wr.alloc (.cells #[.int .u8 x0', .int .u8 x1', .int .u8 x2', .int .u8 x3', .int .u8 x4', .int .u8 x5'] 67) = w6 at *
      generalize htx : wr.heap.size = tx at *
      clear e0 e1 e2 e3 e4 e5
      have HP6 := Lib.hid (Pos.here HA6.out HM6.out)
      obtain ⟨K, hK⟩ : ∃ K : Nat, x4' % 4 = K := ⟨(x4' % 4).toNat, by omega⟩
      have hK3 : K ≤ 3 := by omega
      obtain ⟨N, hN, hN8⟩ : ∃ N : Nat, (2 : Int) ^ K = N ∧ N ≤ 8 := by
        have h : K = 0 ∨ K = 1 ∨ K = 2 ∨ K = 3 := by omega
        rcases h with rfl | rfl | rfl | rfl
        · exact ⟨1, by rfl, by omega⟩
        · exact ⟨2, by rfl, by omega⟩
        · exact ⟨4, by rfl, by omega⟩
        · exact ⟨8, by rfl, by omega⟩
      obtain ⟨C, hC⟩ : ∃ C, C = C3 (Pos w6 c6 a p g q g2 F A b1 U bs) (Pos w6 c6 a p g q g2 F A (stB A b1 x y (offV x3') N x5') U bs) (Pos w6 c6 a p g q g2 F A (stB A b1 x y (offV x3') N x5') U bs) := ⟨_, rfl⟩
      have hKK : ∀ s w', C s w' → ∀ z, z < w6.heap.size → ¬ Sa (c6 z) → w'.heap[z]? = w6.heap[z]? := by
        rw [hC]
        exact c3_all (fun _ h z => h.block) (fun _ h z => h.block) (fun _ h z => h.block)
      have e0 : ∀ m : InSome C, m.val.cell? ⟨t, 0, none⟩ = some (.int .i64 x) := fun m => (some_box HE6.out hKK HCX.out.2 m).cell0
      have e1 : ∀ m : InSome C, m.val.cell? ⟨t, 1, none⟩ = some (.int .i64 y) := fun m => (some_box HE6.out hKK HCX.out.2 m).cell1
      have s3 : ∀ m : InSome C, m.val.cell? ⟨tx, 3, none⟩ = some (.int .u8 x3') := fun m => (some_six HX6.out hKK HCX.out.1 m).cell (i := 3) rfl
      have s4 : ∀ m : InSome C, m.val.cell? ⟨tx, 4, none⟩ = some (.int .u8 x4') := fun m => (some_six HX6.out hKK HCX.out.1 m).cell (i := 4) rfl
      have s5 : ∀ m : InSome C, m.val.cell? ⟨tx, 5, none⟩ = some (.int .u8 x5') := fun m => (some_six HX6.out hKK HCX.out.1 m).cell (i := 5) rfl
      have HC0 : Hid (C 0 (w6.drewN 1)) := Lib.hid (by rw [hC]; exact HP6.out.go (below_drewN (Below.refl _ _) 1))
      have hne : Nonempty (InSome C) := ⟨⟨_, 0, HC0.out⟩⟩
      have H1 : Hid (∀ w', C 0 w' → Calls Try.prog 18 #[.pointer (some ⟨a, 0, none⟩), .agg #[.int .i64 x, .int .i64 y], .int .i64 (offV x3'), .int .i64 N, .int .u64 x5'] w' fun e w'' => e = .returned (.int .i64 (stC A x y (offV x3') N x5')) ∧ C 1 w'') := Lib.hid (by
        rw [hC]
        intro w' h
        exact Pos.run_prog (w := w6) (c := c6) (b1 := b1) (b2 := bs) h (fun c' h' => storeA_any c' a p g F A b1 x y (offV x3') x5' N w' h' (by rw [HAG.out.1]; exact HG.out) (by omega)))
      have HO3 := Lib.hid (fun w => off_is x3' w ⟨l3, u3⟩)
      have HD : Hid (∀ w', C 1 w' → ∃ b2, Ag x y bs b2 ∧ Pos w6 c6 a p g q g2 F A b2 U bs w') := Lib.hid (by
        rw [hC]
        intro w' h
        exact ⟨_, ag_stB HAG.out HG.out, h⟩)
      generalize offV x3' = k3 at *
      generalize stC A x y k3 N x5' = sc at *
      clear hC hKK
      refine wp_region_staged2 [12] C (by kernel_rfl) (by kernel_rfl) HC0.out ?_
      refine lexT_seg2 4 (by kernel_rfl) ?_
      simp only [List.take_succ_cons, List.take_zero, List.drop_succ_cons, List.drop_zero]
      repeat (go_big_quiet_step (fail))
      refine wpQuiet_nil ?_
      refine lexT2_pure HO3.out Try.func30 (by kernel_rfl) rfl (by kernel_rfl) (by kernel_rfl) (by kernel_rfl) ?_
      simp only [Act.put, List.setIfInBounds_toArray, List.set_cons_succ, List.set_cons_zero]
      refine lexT_seg2 7 (by kernel_rfl) ?_
      simp only [List.take_succ_cons, List.take_zero, List.drop_succ_cons, List.drop_zero]
      repeat (go_big_quiet_step (fail))
      refine wpQuiet_nil ?_
      refine lexT2_do H1.out Try.func18 (by kernel_rfl) rfl (by kernel_rfl) (by kernel_rfl) (by kernel_rfl) ?_
      simp only [Act.put, List.setIfInBounds_toArray, List.set_cons_succ, List.set_cons_zero]
      refine lexT2_nil ?_
      intro w7 hw7
      obtain ⟨b2, hag2, hp2⟩ := HD.out w7 hw7
      have HAG2 := Lib.hid hag2
      have HP7 := Lib.hid hp2
      clear HD H1 HC0 e0 e1 s3 s4 s5 hne hag2 hp2 hw7 HO3
      clear C
      obtain ⟨M, hM⟩ : ∃ M : Nat, x4' % 12 = M := ⟨(x4' % 12).toNat, by omega⟩
      have hM11 : M ≤ 11 := by omega
      obtain ⟨w7', hw7'⟩ : ∃ w', w' = w7.drewN 1 := ⟨_, rfl⟩
      have HP7' : Hid (Pos w6 c6 a p g q g2 F A b2 U bs w7') := Lib.hid (by rw [hw7']; exact HP7.out.go (below_drewN (Below.refl _ _) 1))
      obtain ⟨i0, hi0, hz0, hzz1, hzz2⟩ := infoU8
      obtain ⟨w8, hrun, hown, hgr⟩ := run_make_full (P := Try.prog) w7' w7'.heap.size 40 5 i0 _ 1 Try.underlying40 hi0 hz0 hzz1 .i64 .i64 M (by rw [hzz2]; omega) (by unfold maxLen; omega) (Nat.le_refl _)
      have hb8 : Below w7'.heap.size w7' w8 := (Below.refl _ _).grown hgr (Nat.le_refl _) (by simp)
      have HBY := Lib.hid (byt_made hown)
      have HP8 := Lib.hid (HP7'.out.go hb8)
      have HRUN := Lib.hid hrun
      have HO3 := Lib.hid (fun w => off_is x3' w ⟨l3, u3⟩)
      obtain ⟨C, hC⟩ : ∃ C, C = C3 (fun z => z = w7') (fun z => z = w8) (Pos w6 c6 a p g q g2 F A (wrB A b2 x y (offV x3') (List.replicate M 0)) U bs) := ⟨_, rfl⟩
      have hKK : ∀ s w', C s w' → ∀ z, z < w6.heap.size → ¬ Sa (c6 z) → w'.heap[z]? = w6.heap[z]? := by
        rw [hC]
        exact c3_all (fun _ h z => by rw [h]; exact HP7'.out.block) (fun _ h z => by rw [h]; exact HP8.out.block) (fun _ h z => h.block)
      have e0 : ∀ m : InSome C, m.val.cell? ⟨t, 0, none⟩ = some (.int .i64 x) := fun m => (some_box HE6.out hKK HCX.out.2 m).cell0
      have e1 : ∀ m : InSome C, m.val.cell? ⟨t, 1, none⟩ = some (.int .i64 y) := fun m => (some_box HE6.out hKK HCX.out.2 m).cell1
      have s3 : ∀ m : InSome C, m.val.cell? ⟨tx, 3, none⟩ = some (.int .u8 x3') := fun m => (some_six HX6.out hKK HCX.out.1 m).cell (i := 3) rfl
      have s4 : ∀ m : InSome C, m.val.cell? ⟨tx, 4, none⟩ = some (.int .u8 x4') := fun m => (some_six HX6.out hKK HCX.out.1 m).cell (i := 4) rfl
      have HC0 : Hid (C 0 (w7.drewN 1)) := Lib.hid (by rw [hC]; exact hw7'.symm)
      have hne : Nonempty (InSome C) := ⟨⟨_, 0, HC0.out⟩⟩
      have H0 : Hid (∀ z, C 0 z → z = w7') := Lib.hid (by rw [hC]; exact fun _ h => h)
      have H01 : Hid (C 1 w8) := Lib.hid (by rw [hC]; rfl)
      have H1 : Hid (∀ w', C 1 w' → Calls Try.prog 22 #[.pointer (some ⟨a, 0, none⟩), .agg #[.int .i64 x, .int .i64 y], .int .i64 (offV x3'), .slice (some ⟨w7'.heap.size, 0, none⟩) M M] w' fun e w'' => e = .returned (.int .i64 (bytC A x y (offV x3') M)) ∧ C 2 w'') := Lib.hid (by
        rw [hC]
        intro w' h
        have h' : w' = w8 := h
        rw [h']
        have hrw := HBY.out.row (by rw [List.length_replicate]; omega)
        rw [List.length_replicate] at hrw
        exact Pos.run_prog (w := w6) (c := c6) (b1 := b2) (b2 := bs) HP8.out (fun c' h' => write_any c' a p g F A b2 x y (offV x3') _ M M (List.replicate M 0) w8 h' (by rw [HAG2.out.1]; exact HG.out) (by omega) hrw fit_zero))
      have HD : Hid (∀ w', C 2 w' → ∃ b3, Ag x y bs b3 ∧ Pos w6 c6 a p g q g2 F A b3 U bs w') := Lib.hid (by
        rw [hC]
        intro w' h
        exact ⟨_, ag_wrB HAG2.out HG.out, h⟩)
      generalize offV x3' = k3 at *
      generalize bytC A x y k3 M = sc at *
      clear hC hKK hrun hown hgr hb8 hi0 hz0 hzz1 hzz2 hw7' HP7 HP7' HP8 HBY HAG2
      go_wp2
      refine wp_region_staged2 [9, 10] C (by kernel_rfl) (by kernel_rfl) HC0.out ?_
      refine lexT_seg2 4 (by kernel_rfl) ?_
      simp only [List.take_succ_cons, List.take_zero, List.drop_succ_cons, List.drop_zero]
      repeat (go_big_quiet_step (fail))
      refine wpQuiet_nil ?_
      refine lexT2_pure HO3.out Try.func30 (by kernel_rfl) rfl (by kernel_rfl) (by kernel_rfl) (by kernel_rfl) ?_
      simp only [Act.put, List.setIfInBounds_toArray, List.set_cons_succ, List.set_cons_zero]
      refine lexT_seg2 4 (by kernel_rfl) ?_
      simp only [List.take_succ_cons, List.take_zero, List.drop_succ_cons, List.drop_zero]
      repeat (go_big_quiet_step (fail))
      refine wpQuiet_nil ?_
      refine lexT2_make (.slice (some ⟨w7'.heap.size, 0, none⟩) M M) (by kernel_rfl) (by kernel_rfl) (fun z hz => ⟨w8, by rw [H0.out z hz]; exact run_make rfl rfl rfl HRUN.out, H01.out⟩) ?_
      simp only [Act.put, List.setIfInBounds_toArray, List.set_cons_succ, List.set_cons_zero]
      refine lexT2_do H1.out Try.func22 (by kernel_rfl) rfl (by kernel_rfl) (by kernel_rfl) (by kernel_rfl) ?_
      simp only [Act.put, List.setIfInBounds_toArray, List.set_cons_succ, List.set_cons_zero]
      refine lexT2_nil ?_
      intro w9 hw9
      obtain ⟨b3, hag3, hp3⟩ := HD.out w9 hw9
      have HAG3 := Lib.hid hag3
      have HP9 := Lib.hid hp3
      clear HD H0 H01 H1 HC0 e0 e1 s3 s4 hne hag3 hp3 hw9 HO3 HRUN
      clear C
      generalize w7'.heap.size = bz at *
      clear w7' w8
      obtain ⟨MM, hMM⟩ : ∃ M : Nat, x5' % 14 = M := ⟨(x5' % 14).toNat, by omega⟩
      have hM13 : MM ≤ 13 := by omega
      have HO3 := Lib.hid (fun w => off_is x3' w ⟨l3, u3⟩)
      have HO4 := Lib.hid (fun w => off_is x4' w ⟨l4, u4⟩)
      obtain ⟨C, hC⟩ : ∃ C, C = C3 (Pos w6 c6 a p g q g2 F A b3 U bs) (Pos w6 c6 a p g q g2 F A b3 U bs) (Pos w6 c6 a p g q g2 F A (cpB A b3 x y (offV x3') (exV U x1').1 (exV U x1').2 (offV x4') MM) U bs) := ⟨_, rfl⟩
      have hKK : ∀ s w', C s w' → ∀ z, z < w6.heap.size → ¬ Sa (c6 z) → w'.heap[z]? = w6.heap[z]? := by
        rw [hC]
        exact c3_all (fun _ h z => h.block) (fun _ h z => h.block) (fun _ h z => h.block)
      have e0 : ∀ m : InSome C, m.val.cell? ⟨t, 0, none⟩ = some (.int .i64 x) := fun m => (some_box HE6.out hKK HCX.out.2 m).cell0
      have e1 : ∀ m : InSome C, m.val.cell? ⟨t, 1, none⟩ = some (.int .i64 y) := fun m => (some_box HE6.out hKK HCX.out.2 m).cell1
      have s1 : ∀ m : InSome C, m.val.cell? ⟨tx, 1, none⟩ = some (.int .u8 x1') := fun m => (some_six HX6.out hKK HCX.out.1 m).cell (i := 1) rfl
      have s3 : ∀ m : InSome C, m.val.cell? ⟨tx, 3, none⟩ = some (.int .u8 x3') := fun m => (some_six HX6.out hKK HCX.out.1 m).cell (i := 3) rfl
      have s4 : ∀ m : InSome C, m.val.cell? ⟨tx, 4, none⟩ = some (.int .u8 x4') := fun m => (some_six HX6.out hKK HCX.out.1 m).cell (i := 4) rfl
      have s5 : ∀ m : InSome C, m.val.cell? ⟨tx, 5, none⟩ = some (.int .u8 x5') := fun m => (some_six HX6.out hKK HCX.out.1 m).cell (i := 5) rfl
      have HC0 : Hid (C 0 (w9.drewN 1)) := Lib.hid (by rw [hC]; exact HP9.out.go (below_drewN (Below.refl _ _) 1))
      have hne : Nonempty (InSome C) := ⟨⟨_, 0, HC0.out⟩⟩
      have H0 : Hid (∀ w', C 0 w' → Calls Try.prog 13 #[.pointer (some ⟨q, 0, none⟩), .int .u8 x1', .int .u8 0] w' fun e w'' => e = .returned (.agg #[.int .i64 (exV U x1').1, .int .i64 (exV U x1').2]) ∧ C 1 w'') := Lib.hid (by
        rw [hC]
        intro w' h
        have h' : Pos w6 c6 a p g q g2 F A b3 U bs w' := h
        obtain ⟨c', _, hm', _⟩ := h'.ex
        exact (extent_is c' q g2 U bs x1' w' hm' HI0.out (by omega) ⟨l1, u1⟩).mono (fun _ _ ⟨he, hb⟩ => ⟨he, h'.go hb⟩))
      have H1 : Hid (∀ w', C 1 w' → Calls Try.prog 20 #[.pointer (some ⟨a, 0, none⟩), .agg #[.int .i64 x, .int .i64 y], .int .i64 (offV x3'), .agg #[.int .i64 (exV U x1').1, .int .i64 (exV U x1').2], .int .i64 (offV x4'), .int .i64 MM] w' fun e w'' => e = .returned (.int .i64 (cpC A x y (offV x3') (exV U x1').1 (exV U x1').2 (offV x4') MM)) ∧ C 2 w'') := Lib.hid (by
        rw [hC]
        intro w' h
        exact Pos.run_prog (w := w6) (c := c6) (b1 := b3) (b2 := bs) h (fun c' h' => copy_any c' a p g F A b3 x y (offV x3') (exV U x1').1 (exV U x1').2 (offV x4') MM w' h' (by rw [HAG3.out.1]; exact HG.out) (by omega) (by omega)))
      have HD : Hid (∀ w', C 2 w' → ∃ b4, Ag x y bs b4 ∧ Pos w6 c6 a p g q g2 F A b4 U bs w') := Lib.hid (by
        rw [hC]
        intro w' h
        exact ⟨_, ag_cpB HAG3.out HG.out, h⟩)
      generalize offV x3' = k3 at *
      generalize offV x4' = k4 at *
      generalize (exV U x1').1 = eu at *
      generalize (exV U x1').2 = ev at *
      generalize cpC A x y k3 eu ev k4 MM = sc at *
      clear hC hKK HP9 HAG3
      go_wp2
      refine wp_region_staged2 [8, 16] C (by kernel_rfl) (by kernel_rfl) HC0.out ?_
      refine lexT_seg2 4 (by kernel_rfl) ?_
      simp only [List.take_succ_cons, List.take_zero, List.drop_succ_cons, List.drop_zero]
      repeat (go_big_quiet_step (fail))
      refine wpQuiet_nil ?_
      refine lexT2_pure HO3.out Try.func30 (by kernel_rfl) rfl (by kernel_rfl) (by kernel_rfl) (by kernel_rfl) ?_
      simp only [Act.put, List.setIfInBounds_toArray, List.set_cons_succ, List.set_cons_zero]
      refine lexT_seg2 3 (by kernel_rfl) ?_
      simp only [List.take_succ_cons, List.take_zero, List.drop_succ_cons, List.drop_zero]
      repeat (go_big_quiet_step (fail))
      refine wpQuiet_nil ?_
      refine lexT2_do H0.out Try.func13 (by kernel_rfl) rfl (by kernel_rfl) (by kernel_rfl) (by kernel_rfl) ?_
      simp only [Act.put, List.setIfInBounds_toArray, List.set_cons_succ, List.set_cons_zero]
      refine lexT_seg2 2 (by kernel_rfl) ?_
      simp only [List.take_succ_cons, List.take_zero, List.drop_succ_cons, List.drop_zero]
      repeat (go_big_quiet_step (fail))
      refine wpQuiet_nil ?_
      refine lexT2_pure HO4.out Try.func30 (by kernel_rfl) rfl (by kernel_rfl) (by kernel_rfl) (by kernel_rfl) ?_
      simp only [Act.put, List.setIfInBounds_toArray, List.set_cons_succ, List.set_cons_zero]
      refine lexT_seg2 4 (by kernel_rfl) ?_
      simp only [List.take_succ_cons, List.take_zero, List.drop_succ_cons, List.drop_zero]
      repeat (go_big_quiet_step (fail))
      refine wpQuiet_nil ?_
      refine lexT2_do H1.out Try.func20 (by kernel_rfl) rfl (by kernel_rfl) (by kernel_rfl) (by kernel_rfl) ?_
      simp only [Act.put, List.setIfInBounds_toArray, List.set_cons_succ, List.set_cons_zero]
      refine lexT2_nil ?_
      intro w10 hw10
      obtain ⟨b4, hag4, hp4⟩ := HD.out w10 hw10
      have HAG4 := Lib.hid hag4
      have HP10 := Lib.hid hp4
      clear HD H0 H1 HC0 e0 e1 s1 s3 s4 s5 hne hag4 hp4 hw10 HO3 HO4
      clear C
      go_wp2
      go_roundw
      case rel => exact ⟨i + 1, by omega, by omega, by go_num, Lib.hid ⟨b4, HAG4.out, Pos.from_ HK6.out HC6.out HP10.out⟩⟩
      case measure => simp [intOf]; omega
    · obtain ⟨b1, hag, hp⟩ := hh.out
      have HP := Lib.hid hp
      have HAG := Lib.hid hag
      have HBR : Hid (Below w.heap.size w wr) := Lib.hid (Below.trans HB4.out (hp.ks.below (fun z hz => by rw [HC4.out.1 z hz]; exact sa_0) HB4.out.size))
      have hstop : (¬ (i : Int) < (m2 : Int) ∧ decide ((i : Int) < (m2 : Int)) = false) ∨ ((i : Int) < (m2 : Int) ∧ ¬ (i : Int) < 10 ∧ decide ((i : Int) < 10) = false) := by
        by_cases h : i < m2
        · exact .inr ⟨by omega, by omega, decide_eq_false (by omega)⟩
        · exact .inl ⟨by omega, decide_eq_false (by omega)⟩
      obtain ⟨c6, ha6, hm6, hk6, hc6, hn6⟩ := hp.ex
      have HA6 := Lib.hid ha6
      have HR6 := Lib.hid (HR4.out.ks9 hp.ks HGE.out)
      have HE6 := Lib.hid (hp.box9 HE4.out HCT.out)
      clear hh hag hp ha6 hm6 hk6 hc6 hn6
      clear hlt
      rcases hstop with ⟨hs1, hs⟩ | ⟨hs1, hs2, hs⟩
      all_goals
        go_wp2_with fail
        refine (bytes_any c6 a p g F A b1 wr HA6.out).mono ?_
        rintro e w7 ⟨vb, rfl, ho, hb⟩
        obtain ⟨A7, n7, d7, rfl, hr7⟩ := ho.shape
        have hn7 : n7 = bs.length := by have := hr7.len; rw [iv_len] at this; rw [← HAG.out.1]; exact this.symm
        subst hn7
        have HR7 := Lib.hid hr7
        have hcap7 := hr7.cap
        have hmax7 := hr7.small
        unfold maxLen at hmax7
        have HW7 := Lib.hid (HR6.out.go hb)
        have HE7 := Lib.hid (HE6.out.go hb)
        have HB7 := Lib.hid (Below.then HBR.out hb (Nat.le_refl _))
        clear ho hb hr7 HR6 HE6 HBR
        go_wp2
        go_loopw [96] (fun iv wr => ∃ (j : Nat), j ≤ bs.length ∧ iv = .int .i64 j ∧ Hid (Below w7.heap.size w7 wr)) (fun iv _ => bs.length - (intOf iv).toNat)
        case atStart => exact ⟨0, by omega, rfl, Lib.hid (Below.refl _ _)⟩
        case round =>
          obtain ⟨j, hj, rfl, hh⟩ := hrel
          by_cases hjl : j < bs.length
          · have hjl' : (j : Int) < (bs.length : Int) := by omega
            obtain ⟨bb, oo, hbb, _, hc1⟩ := (HR7.out.go hh.out).int (j := j) hjl
            obtain ⟨bb', oo', hbb', _, hc2⟩ := (HW7.out.go hh.out).int (j := j) hjl
            have HE8 := Lib.hid (HE7.out.go hh.out)
            have HB8 := Lib.hid hh.out
            have v0 := HE8.out.cell0
            have v1 := HE8.out.cell1
            clear hh
            by_cases heq : b1.getD j 0 = bs.getD j 0
            · rw [heq] at hc1
              generalize bs.getD j 0 = u at *
              clear v0 v1
              subst hbb hbb'
              go_wp2
              go_quiet (fail)
              go_wp2
              go_roundw
              case rel => exact ⟨j + 1, by omega, by go_num, Lib.hid (below_drewN HB8.out _)⟩
              case measure => simp [intOf]; omega
            · have hin : x ≤ (j : Int) ∧ (j : Int) < x + y := by
                by_cases h : x ≤ (j : Int) ∧ (j : Int) < x + y
                · exact h
                · exact absurd (HAG.out.2 j h) heq
              obtain ⟨j0, j1⟩ := hin
              have d1 : decide ((j : Int) < x) = false := decide_eq_false (by omega)
              have d2 : decide (x + y ≤ (j : Int)) = false := decide_eq_false (by omega)
              have d3 : (b1.getD j 0 != bs.getD j 0) = true := by simpa using heq
              generalize bs.getD j 0 = u at *
              generalize b1.getD j 0 = u' at *
              subst hbb hbb'
              go_wp2
              go_quiet (fail)
              go_wp2
              go_roundw
              case rel => exact ⟨j + 1, by omega, by go_num, Lib.hid (below_drewN HB8.out _)⟩
              case measure => simp [intOf]; omega
          · have HB8 := Lib.hid (Below.then HB7.out hh.out (Nat.le_refl _))
            obtain rfl : j = bs.length := by omega
            clear hh
            go_wp2_with fail
            refine (awake_any wr).mono ?_
            rintro e w8 ⟨rfl, hb⟩
            have HB9 := Lib.hid (Below.then HB8.out hb (Nat.le_refl _))
            clear hb
            go_wp2
            go_ret
            exact ⟨rfl, HB9.out⟩
end Go.Proofs.Ytfchccgajcjbbaa
