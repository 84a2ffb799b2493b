/-
  The law HandletabPlays as a walk: called with any arguments of its types it returns true. No conditions.
-/
import Derived.Test.YtaoojgnkbcoggaaHpv
namespace Go.Proofs.Ytaoojgnkbcoggaa
open Go.ChangeShapes Go.WideShapes Go.RowKit
set_option linter.unusedVariables false
set_option linter.unusedSimpArgs false
set_option maxHeartbeats 8000000
set_option maxRecDepth 100000

theorem handletabPlays_walk (a0 a1 : Int) (a2 : Option Addr) (len2 cap2 : Nat) (w : World) (w0 : (Lit.int .u8 a0).wf = true) (w1 : (Lit.int .u8 a1).wf = true) (w2 : Qua w w.heap.size a2 len2 cap2) :
    Calls Try.prog 3 #[.int .u8 a0, .int .u8 a1, .slice a2 len2 cap2] w fun e w' => e = .returned (.bool true) ∧ Below w.heap.size w w' := by
  have b0 := byte_bd w0
  have b1 := byte_bd w1
  have hF := fst13_in b1
  have hm := Int.emod_nonneg a0 (show (7 : Int) ≠ 0 by omega)
  have hl := Int.emod_lt_of_pos a0 (show (0 : Int) < 7 by omega)
  have HFS : Hid (∀ W, Calls Try.prog 10 #[.int .u8 a1] W fun e w' => e = .returned (.int .i64 (fst13 a1)) ∧ W = w') := Lib.hid (fun W => first13_any a1 W b1)
  have HNS := Lib.hid (ns_ok (n := a0 % 7) (first := fst13 a1) (by omega) hF)
  have hN4 : (a0 % 7).toNat ≤ 4096 := by omega
  have HD := Lib.hid w2
  have hcap := w2.cap
  have hsm := w2.small
  unfold maxLen at hsm
  generalize hFF : fst13 a1 = F at *
  obtain ⟨N, hNN⟩ : ∃ N, (a0 % 7).toNat = N := ⟨_, rfl⟩
  have HNE := Lib.hid hNN
  rw [hNN] at hN4
  clear w0 w1 w2 hFF hNN
  go_enter Try.func3, Try.ntmps3
  go_wp2_with fail
  refine (awake13_any w).mono ?_
  rintro e ws ⟨rfl, hbs⟩
  have HBS := Lib.hid hbs
  clear hbs
  go_wp2_with fail
  refine (HFS.out _).mono ?_
  rintro e wx ⟨rfl, rfl⟩
  have HN := Lib.hid (newT_any (a0 % 7) F ws (fun _ => 0) 1)
  unfold NwE at HN
  go_wp2_with fail
  refine HN.out.mono ?_
  rintro e wa (⟨h1, _⟩ | ⟨_, p, rfl, hp, hS, hba⟩)
  · have := HNS.out
    omega
  rw [HNE.out] at hS
  have HS := Lib.hid hS
  have HBA := Lib.hid hba
  have HM := Lib.hid (newM13_any (a0 % 7) F wa (rc (fun _ => 0) ws.heap.size 1) 2)
  unfold NwE at HM
  clear HN hS hba
  go_wp2_with fail
  refine (HFS.out wa).mono ?_
  rintro e wx ⟨rfl, rfl⟩
  go_wp2_with fail
  refine HM.out.mono ?_
  rintro e wb (⟨h1, _⟩ | ⟨_, m, rfl, hm2, hM, hbb⟩)
  · have := HNS.out
    omega
  rw [HNE.out] at hM
  obtain ⟨hT0, hB0⟩ := Tri.made (B := w.heap.size) hF HS.out HBA.out hM hbb HBS.out.size
  have HP0 : Hid (Pv w N p m none 0 0 wb) := Lib.hid ⟨Below.then HBS.out hB0 (Nat.le_refl _), _, _, [], hT0, Evr.nil⟩
  clear HM hM hbb hT0 hB0 HS HBA
  go_wp2
  go_loopw [11, 12] (fun lv kv wr => ∃ i : Nat, i ≤ len2 ∧ i ≤ 40 ∧ kv = .int .i64 i ∧ ∃ A n c, lv = .slice A n c ∧ n ≤ i ∧ Hid (Pv w N p m A n c wr)) (fun _ kv _ => 40 - (intOf kv).toNat)
  case atStart => exact ⟨0, by omega, by omega, rfl, none, 0, 0, rfl, Nat.le_refl _, HP0⟩
  case round =>
    obtain ⟨i, hi, hi40, rfl, A, n, c, rfl, hni, hh⟩ := hrel
    by_cases hin : i < len2
    · have hi1 : (i : Int) < (len2 : Int) := by omega
      by_cases h40 : i < 40
      · have hi2 : (i : Int) < 40 := by omega
        obtain ⟨hB, cf, t, l, hT, hE⟩ := hh.out
        have HT0 := Lib.hid hT
        have HE0 := Lib.hid hE
        obtain ⟨b, o, x0, x1, x2, x3, rfl, hb, g0, g1, g2, g3, c0, c1, c2, c3⟩ := (HD.out.below hB).cells i hin
        have HB := Lib.hid hB
        have hcpe := hE.row.cap
        have hsme := hE.row.small
        unfold maxLen at hsme
        clear hh hB hT hE
        go_wp2_with fail
        have HD0 := Lib.hid (below_drewN (Below.refl wr.heap.size wr) 1)
        have hHeld : (wr.drewN 1).cell? ⟨b, o + i * 4, none⟩ = some (.int .u16 x0) ∧ (wr.drewN 1).cell? ⟨b, o + i * 4 + 1, none⟩ = some (.int .u16 x1) ∧ (wr.drewN 1).cell? ⟨b, o + i * 4 + 2, none⟩ = some (.int .u16 x2) ∧ (wr.drewN 1).cell? ⟨b, o + i * 4 + 3, none⟩ = some (.int .u16 x3) := ⟨g0, g1, g2, g3⟩
        refine wp_region_hand 15 (fun W => W.cell? ⟨b, o + i * 4, none⟩ = some (.int .u16 x0) ∧ W.cell? ⟨b, o + i * 4 + 1, none⟩ = some (.int .u16 x1) ∧ W.cell? ⟨b, o + i * 4 + 2, none⟩ = some (.int .u16 x2) ∧ W.cell? ⟨b, o + i * 4 + 3, none⟩ = some (.int .u16 x3)) (by kernel_rfl) (by kernel_rfl) ?_
        rw [show Array.replicate 15 false = #[false, false, false, false, false, false, false, false, false, false, false, false, false, false, false] from rfl]
        refine held_take (i := 0) (d := 57) (v := .pointer (some ⟨p, 0, none⟩)) rfl rfl (by kernel_rfl) (by kernel_rfl) (by kernel_rfl) (fun _ _ _ h => h) (by rfl) (fun W _ => run_move_is (.tmp 7) rfl rfl W) hHeld ?_
        simp only [Act.put, List.setIfInBounds_toArray, List.set_cons_zero, List.set_cons_succ]
        refine held_take (i := 1) (d := 58) (v := .pointer (some ⟨m, 0, none⟩)) rfl rfl (by kernel_rfl) (by kernel_rfl) (by kernel_rfl) (fun _ _ _ h => h) (by rfl) (fun W _ => run_move_is (.tmp 9) rfl rfl W) hHeld ?_
        simp only [Act.put, List.setIfInBounds_toArray, List.set_cons_zero, List.set_cons_succ]
        refine held_take (i := 2) (d := 59) (v := .slice (some ⟨b, o, none⟩) len2 cap2) rfl rfl (by kernel_rfl) (by kernel_rfl) (by kernel_rfl) (fun _ _ _ h => h) (by rfl) (fun W _ => run_move_is (.tmp 2) rfl rfl W) hHeld ?_
        simp only [Act.put, List.setIfInBounds_toArray, List.set_cons_zero, List.set_cons_succ]
        refine held_take (i := 3) (d := 60) (v := .int .i64 (i : Int)) rfl rfl (by kernel_rfl) (by kernel_rfl) (by kernel_rfl) (fun _ _ _ h => h) (by rfl) (fun W _ => run_move_is (.tmp 12) rfl rfl W) hHeld ?_
        simp only [Act.put, List.setIfInBounds_toArray, List.set_cons_zero, List.set_cons_succ]
        refine held_take (i := 4) (d := 61) (v := .pointer (some ⟨b, o + i * 4, none⟩)) rfl rfl (by kernel_rfl) (by kernel_rfl) (by kernel_rfl) (fun _ _ _ h => h) (by rfl) (fun W _ => by go_simp) hHeld ?_
        simp only [Act.put, List.setIfInBounds_toArray, List.set_cons_zero, List.set_cons_succ]
        refine held_take (i := 5) (d := 62) (v := .agg #[.int .u16 x0, .int .u16 x1, .int .u16 x2, .int .u16 x3]) rfl rfl (by kernel_rfl) (by kernel_rfl) (by kernel_rfl) (fun _ _ _ h => h) (by rfl) (fun W hS => by obtain ⟨h1, h2, h3, h4⟩ := hS; go_simp) hHeld ?_
        simp only [Act.put, List.setIfInBounds_toArray, List.set_cons_zero, List.set_cons_succ]
        refine held_take (i := 6) (d := 63) (v := .int .u8 a1) rfl rfl (by kernel_rfl) (by kernel_rfl) (by kernel_rfl) (fun _ _ _ h => h) (by rfl) (fun W _ => run_move_is (.tmp 1) rfl rfl W) hHeld ?_
        simp only [Act.put, List.setIfInBounds_toArray, List.set_cons_zero, List.set_cons_succ]
        refine held_take (i := 8) (d := 65) (v := .slice A n c) rfl rfl (by kernel_rfl) (by kernel_rfl) (by kernel_rfl) (fun _ _ _ h => h) (by rfl) (fun W _ => run_move_is (.tmp 11) rfl rfl W) hHeld ?_
        simp only [Act.put, List.setIfInBounds_toArray, List.set_cons_zero, List.set_cons_succ]
        refine held_one (i := 7) (by kernel_rfl) ?_
        refine held_callX (d := 64) rfl rfl (by rfl) rfl (by kernel_rfl) Try.func10 (by kernel_rfl) (HFS.out _) ?_
        rintro e w4 ⟨rfl, rfl⟩
        refine ⟨_, rfl, hHeld, ?_⟩
        simp only [Act.put, List.setIfInBounds_toArray, List.set_cons_zero, List.set_cons_succ]
        have HT4 := Lib.hid (HT0.out.go HD0.out)
        have HE4 := Lib.hid (HE0.out.go HD0.out (c' := rc cf wr.heap.size 0) (fun g hg => rc_old hg))
        have HB4 := Lib.hid (Below.then HB.out HD0.out (Nat.le_refl _))
        clear HT0 HE0 HB
        generalize rc cf wr.heap.size 0 = c4 at *
        have HST := Lib.hid (step13_any w.heap.size N _ c4 p m t x0 x1 x2 x3 F A n c l HT4.out HE4.out hN4 (by omega) c0 c1 c2 c3 hF)
        unfold StE at HST
        refine held_one (i := 9) (by kernel_rfl) ?_
        refine held_callX (d := 66) rfl rfl (by rfl) rfl (by kernel_rfl) Try.func12 (by kernel_rfl) HST.out ?_
        rintro e w5 ⟨A5, n5, cc5, rfl, hb5, c5, t5, l5, hT5, hE5, hn5⟩
        replace hHeld : w5.cell? ⟨b, o + i * 4, none⟩ = some (.int .u16 x0) ∧ w5.cell? ⟨b, o + i * 4 + 1, none⟩ = some (.int .u16 x1) ∧ w5.cell? ⟨b, o + i * 4 + 2, none⟩ = some (.int .u16 x2) ∧ w5.cell? ⟨b, o + i * 4 + 3, none⟩ = some (.int .u16 x3) := ⟨(hb5.cell (p := ⟨b, _, none⟩) hb).trans hHeld.1, (hb5.cell (p := ⟨b, _, none⟩) hb).trans hHeld.2.1, (hb5.cell (p := ⟨b, _, none⟩) hb).trans hHeld.2.2.1, (hb5.cell (p := ⟨b, _, none⟩) hb).trans hHeld.2.2.2⟩
        refine ⟨_, rfl, hHeld, ?_⟩
        simp only [Act.put, List.setIfInBounds_toArray, List.set_cons_zero, List.set_cons_succ]
        have HT5 := Lib.hid hT5
        have HE5 := Lib.hid hE5
        have HB5 := Lib.hid (HB4.out.trans hb5)
        clear hb5 hT5 hE5 HST HT4 HE4 HB4 g0 g1 g2 g3
        refine held_take (i := 10) (d := 56) (v := .tuple #[.slice A5 n5 cc5, .bool true]) rfl rfl (by kernel_rfl) (by kernel_rfl) (by kernel_rfl) (fun _ _ _ h => h) (by rfl) (fun W _ => run_move_is (.tmp 66) rfl rfl W) hHeld ?_
        simp only [Act.put, List.setIfInBounds_toArray, List.set_cons_zero, List.set_cons_succ]
        refine held_take (i := 11) (d := 67) (v := .slice A5 n5 cc5) rfl rfl (by kernel_rfl) (by kernel_rfl) (by kernel_rfl) (fun _ _ _ h => h) (by rfl) (fun W _ => by go_simp) hHeld ?_
        simp only [Act.put, List.setIfInBounds_toArray, List.set_cons_zero, List.set_cons_succ]
        refine held_take (i := 12) (d := 68) (v := .bool true) rfl rfl (by kernel_rfl) (by kernel_rfl) (by kernel_rfl) (fun _ _ _ h => h) (by rfl) (fun W _ => by go_simp) hHeld ?_
        simp only [Act.put, List.setIfInBounds_toArray, List.set_cons_zero, List.set_cons_succ]
        refine held_take (i := 13) (d := 13) (v := .slice A5 n5 cc5) rfl rfl (by kernel_rfl) (by kernel_rfl) (by kernel_rfl) (fun _ _ _ h => h) (by rfl) (fun W _ => by go_simp) hHeld ?_
        simp only [Act.put, List.setIfInBounds_toArray, List.set_cons_zero, List.set_cons_succ]
        refine held_take (i := 14) (d := 14) (v := .bool true) rfl rfl (by kernel_rfl) (by kernel_rfl) (by kernel_rfl) (fun _ _ _ h => h) (by rfl) (fun W _ => by go_simp) hHeld ?_
        simp only [Act.put, List.setIfInBounds_toArray, List.set_cons_zero, List.set_cons_succ]
        refine wpAnyH_done (by kernel_rfl) ?_ _
        clear hHeld
        have HAL := Lib.hid (alike13_any w5 c5 c5 1 p 2 m N t5 HT5.out.tb HT5.out.mb HT5.out.wf hN4)
        go_wp2_with fail
        refine HAL.out.mono ?_
        rintro e w6 ⟨rfl, hb6⟩
        have HT6 := Lib.hid (HT5.out.go hb6)
        have HE6 := Lib.hid (HE5.out.go hb6 (c' := rc c5 w5.heap.size 0) (fun g hg => rc_old hg))
        have HB6 := Lib.hid (Below.then HB5.out hb6 (Nat.le_refl _))
        clear hb6 HAL HT5 HE5 HB5
        generalize rc c5 w5.heap.size 0 = c6 at *
        obtain ⟨b', o', y0, y1, y2, y3, e', _, g0, g1, g2, g3, k0, k1, k2, k3⟩ := (HD.out.below HB6.out).cells i hin
        injection e' with e1 
        injection e1 with e2 e3
        subst e2 e3
        have hcpe := HE6.out.row.cap
        have hsme := HE6.out.row.small
        unfold maxLen at hsme
        go_wp2_with fail
        have HFQ : Hid (∀ z : Later w6, Calls Try.prog 10 #[.int .u8 a1] z.val fun e w' => e = .returned (.int .i64 F) ∧ Below z.val.heap.size z.val w') := Lib.hid (fun z => (HFS.out z.val).mono fun e w' h => ⟨h.1, h.2 ▸ Below.refl _ _⟩)
        have q0 : ∀ z : Later w6, z.val.cell? ⟨b, o + i * 4, none⟩ = some (.int .u16 y0) := fun z => later_old z g0
        have q1 : ∀ z : Later w6, z.val.cell? ⟨b, o + i * 4 + 1, none⟩ = some (.int .u16 y1) := fun z => later_old z g1
        have q2 : ∀ z : Later w6, z.val.cell? ⟨b, o + i * 4 + 2, none⟩ = some (.int .u16 y2) := fun z => later_old z g2
        have q3 : ∀ z : Later w6, z.val.cell? ⟨b, o + i * 4 + 3, none⟩ = some (.int .u16 y3) := fun z => later_old z g3
        refine wp_region_later_tail 24 (by kernel_rfl) (by kernel_rfl) ?_
        simp only [List.take_succ_cons, List.take_zero, List.drop_succ_cons, List.drop_zero]
        repeat (go_big_quiet_step (first | (go_at_call 10; exact Calls.later (HFQ.out _))))
        refine wpQuiet_nil ?_
        rintro w7 ⟨⟨_, hq⟩, rfl⟩
        have HT7 := Lib.hid (HT6.out.go hq)
        have HE7 := Lib.hid (HE6.out.go hq (c' := rc c6 w6.heap.size 0) (fun g hg => rc_old hg))
        have HB7 := Lib.hid (Below.then HB6.out hq (Nat.le_refl _))
        clear q0 q1 q2 q3 HFQ g0 g1 g2 g3 hq HT6 HE6 HB6
        generalize rc c6 w6.heap.size 0 = c7 at *
        have HWD := Lib.hid (word13_any y1 y2 y3 y0 F A5 n5 cc5 l5 w7 k1 k2 k3 k0 hF HE7.out.row HE7.out.u64)
        unfold WrE at HWD
        go_wp2_with fail
        refine HWD.out.mono ?_
        rintro e w8 ⟨h, rfl, hu, hb8⟩
        have HT8 := Lib.hid (HT7.out.go hb8)
        have HE8 := Lib.hid (HE7.out.go hb8 (c' := rc c7 w7.heap.size 0) (fun g hg => rc_old hg))
        have HB8 := Lib.hid (Below.then HB7.out hb8 (Nat.le_refl _))
        have HU := Lib.hid hu
        clear hb8 hu HWD HT7 HE7 HB7
        generalize rc c7 w7.heap.size 0 = c8 at *
        have HR1 := Lib.hid (resS_any w8 c8 1 p N t5 h HT8.out.tb HT8.out.wf hN4 HU.out)
        have HR2 : Hid (∀ W C, Hmb W C 2 m t5 → Calls Try.prog 16 #[.pointer (some ⟨m, 0, none⟩), .int .u64 h] W (RsE W t5 h)) := Lib.hid (fun W C hM => resM_any W C 2 m N t5 h hM HT8.out.wf hN4 HU.out)
        unfold RsE at HR1 HR2
        obtain ⟨⟨v1, v2, v3, v4, v5⟩, hv⟩ : ∃ v, t5.resV h = v := ⟨_, rfl⟩
        rw [hv] at HR1 HR2
        generalize t5.resE h = er at *
        unfold enV at HR1 HR2
        simp only at HR1 HR2
        clear hv
        go_wp2_with fail
        refine HR1.out.mono ?_
        rintro e w9 ⟨rfl, hb9⟩
        have hb10 : Below w8.heap.size w8 (w9.alloc (.cells #[.int .u64 v1, .int .i64 v2, .int .i64 v3, .int .i64 v4, .int .i64 v5] 44)) := hb9.alloc hb9.size _
        have HT10 := Lib.hid (HT8.out.go hb10)
        have HE10 := Lib.hid (HE8.out.go hb10 (c' := rc c8 w8.heap.size 0) (fun g hg => rc_old hg))
        have HB10 := Lib.hid (Below.then HB8.out hb10 (Nat.le_refl _))
        have HX10 := Lib.hid (EnB.new (w := w9) (h := v1) (o := v2) (t := v3) (f := v4) (l := v5))
        clear hb9 hb10 HR1 HT8 HE8 HB8
        go_wp2_with fail
        generalize w9.alloc (.cells #[.int .u64 v1, .int .i64 v2, .int .i64 v3, .int .i64 v4, .int .i64 v5] 44) = w10 at *
        generalize w9.heap.size = bx at *
        generalize rc c8 w8.heap.size 0 = c10 at *
        refine (HR2.out w10 c10 HT10.out.mb).mono ?_
        rintro e w11 ⟨rfl, hb11⟩
        have hb12 : Below w10.heap.size w10 (w11.alloc (.cells #[.int .u64 v1, .int .i64 v2, .int .i64 v3, .int .i64 v4, .int .i64 v5] 44)) := hb11.alloc hb11.size _
        have HP12 : Hid (Pv w N p m A5 n5 cc5 (w11.alloc (.cells #[.int .u64 v1, .int .i64 v2, .int .i64 v3, .int .i64 v4, .int .i64 v5] 44))) := Lib.hid ⟨Below.then HB10.out hb12 (Nat.le_refl _), _, _, _, HT10.out.go hb12, HE10.out.go hb12 (c' := rc c10 w10.heap.size 0) (fun g hg => rc_old hg)⟩
        obtain ⟨r0, r1, r2, r3, r4⟩ := (HX10.out.go hb12).cells
        obtain ⟨s0, s1, s2, s3, s4⟩ := (EnB.new (w := w11) (h := v1) (o := v2) (t := v3) (f := v4) (l := v5)).cells
        have heq := same_en v1 v2 v3 v4 v5
        clear hb11 hb12 HR2 HT10 HE10 HB10 HX10
        go_wp2
        go_roundw
        case rel => exact ⟨i + 1, by omega, by omega, by go_num, _, _, _, rfl, by omega, HP12⟩
        case measure => simp [intOf]; omega
      · have hi2 : ¬ (i : Int) < 40 := by omega
        have HB := Lib.hid hh.out.1
        clear hh
        go_wp2_with fail
        refine (awake13_any wr).mono ?_
        rintro e w4 ⟨rfl, hb4⟩
        go_wp2
        go_ret
        exact ⟨rfl, Below.then HB.out hb4 (Nat.le_refl _)⟩
    · have hi1 : ¬ (i : Int) < (len2 : Int) := by omega
      have HB := Lib.hid hh.out.1
      clear hh
      go_wp2_with fail
      refine (awake13_any wr).mono ?_
      rintro e w4 ⟨rfl, hb4⟩
      go_wp2
      go_ret
      exact ⟨rfl, Below.then HB.out hb4 (Nat.le_refl _)⟩
end Go.Proofs.Ytaoojgnkbcoggaa
