/-
  The law HandletabAny as a walk: called with any arguments of its types it returns true. No conditions.
-/
import Derived.Test.YtaoojgnkbcoggaaHpv
namespace Go.Proofs.Ytaoojgnkbcoggaa
open Go.ChangeShapes Go.WideShapes Go.RowKit
set_option linter.unusedVariables false
set_option linter.unusedSimpArgs false
set_option maxHeartbeats 8000000
set_option maxRecDepth 100000

theorem handletabAny_walk (a0 a1 : Int) (a2 : Option Addr) (len2 cap2 : Nat) (h own : Int) (w : World) (w0 : (Lit.int .u8 a0).wf = true) (w1 : (Lit.int .u8 a1).wf = true) (w2 : Qua w w.heap.size a2 len2 cap2) (w3 : (Lit.int .u64 h).wf = true) (w4 : (Lit.int .i64 own).wf = true) :
    Calls Try.prog 4 #[.int .u8 a0, .int .u8 a1, .slice a2 len2 cap2, .int .u64 h, .int .i64 own] w fun e w' => e = .returned (.bool true) ∧ Below w.heap.size w w' := by
  have b0 := byte_bd w0
  have b1 := byte_bd w1
  have hu0 : U64 h := by
    have := Go.bounds_u64 w3
    unfold U64
    omega
  have HU := Lib.hid hu0
  have hF := fst13_in b1
  have hm := Int.emod_nonneg a0 (show (7 : Int) ≠ 0 by omega)
  have hl := Int.emod_lt_of_pos a0 (show (0 : Int) < 7 by omega)
  have HFS : Hid (∀ W, Calls Try.prog 10 #[.int .u8 a1] W fun e w' => e = .returned (.int .i64 (fst13 a1)) ∧ W = w') := Lib.hid (fun W => first13_any a1 W b1)
  have HNS := Lib.hid (ns_ok (n := a0 % 7) (first := fst13 a1) (by omega) hF)
  have hN4 : (a0 % 7).toNat ≤ 4096 := by omega
  have HD := Lib.hid w2
  have hcap := w2.cap
  have hsm := w2.small
  unfold maxLen at hsm
  generalize hFF : fst13 a1 = F at *
  obtain ⟨N, hNN⟩ : ∃ N, (a0 % 7).toNat = N := ⟨_, rfl⟩
  have HNE := Lib.hid hNN
  rw [hNN] at hN4
  clear w0 w1 w2 w3 w4 hFF hNN hu0
  go_enter Try.func4, Try.ntmps4
  have HBS := Lib.hid (Below.refl w.heap.size w)
  go_wp2_with fail
  refine (HFS.out _).mono ?_
  rintro e wx ⟨rfl, rfl⟩
  have HN := Lib.hid (newT_any (a0 % 7) F w (fun _ => 0) 1)
  unfold NwE at HN
  go_wp2_with fail
  refine HN.out.mono ?_
  rintro e wa (⟨h1, _⟩ | ⟨_, p, rfl, hp, hS, hba⟩)
  · have := HNS.out
    omega
  rw [HNE.out] at hS
  have HS := Lib.hid hS
  have HBA := Lib.hid hba
  have HM := Lib.hid (newM13_any (a0 % 7) F wa (rc (fun _ => 0) w.heap.size 1) 2)
  unfold NwE at HM
  clear HN hS hba
  go_wp2_with fail
  refine (HFS.out wa).mono ?_
  rintro e wx ⟨rfl, rfl⟩
  go_wp2_with fail
  refine HM.out.mono ?_
  rintro e wb (⟨h1, _⟩ | ⟨_, m, rfl, hm2, hM, hbb⟩)
  · have := HNS.out
    omega
  rw [HNE.out] at hM
  obtain ⟨hT0, hB0⟩ := Tri.made (B := w.heap.size) hF HS.out HBA.out hM hbb HBS.out.size
  have HP0 : Hid (Pv w N p m none 0 0 wb) := Lib.hid ⟨Below.then HBS.out hB0 (Nat.le_refl _), _, _, [], hT0, Evr.nil⟩
  clear HM hM hbb hT0 hB0 HS HBA
  go_wp2
  go_loopw [15, 16] (fun lv kv wr => ∃ i : Nat, i ≤ len2 ∧ i ≤ 20 ∧ kv = .int .i64 i ∧ ∃ A n c, lv = .slice A n c ∧ n ≤ i ∧ Hid (Pv w N p m A n c wr)) (fun _ kv _ => 20 - (intOf kv).toNat)
  case atStart => exact ⟨0, by omega, by omega, rfl, none, 0, 0, rfl, Nat.le_refl _, HP0⟩
  case round =>
    obtain ⟨i, hi, hi40, rfl, A, n, c, rfl, hni, hh⟩ := hrel
    by_cases hin : i < len2
    · have hi1 : (i : Int) < (len2 : Int) := by omega
      by_cases h40 : i < 20
      · have hi2 : (i : Int) < 20 := by omega
        obtain ⟨hB, cf, t, l, hT, hE⟩ := hh.out
        have HT0 := Lib.hid hT
        have HE0 := Lib.hid hE
        obtain ⟨b, o, x0, x1, x2, x3, rfl, hb, g0, g1, g2, g3, c0, c1, c2, c3⟩ := (HD.out.below hB).cells i hin
        have HB := Lib.hid hB
        have hcpe := hE.row.cap
        have hsme := hE.row.small
        unfold maxLen at hsme
        clear hh hB hT hE
        go_wp2_with fail
        have HD0 := Lib.hid (below_drewN (Below.refl wr.heap.size wr) 1)
        have hHeld : (wr.drewN 1).cell? ⟨b, o + i * 4, none⟩ = some (.int .u16 x0) ∧ (wr.drewN 1).cell? ⟨b, o + i * 4 + 1, none⟩ = some (.int .u16 x1) ∧ (wr.drewN 1).cell? ⟨b, o + i * 4 + 2, none⟩ = some (.int .u16 x2) ∧ (wr.drewN 1).cell? ⟨b, o + i * 4 + 3, none⟩ = some (.int .u16 x3) := ⟨g0, g1, g2, g3⟩
        refine wp_region_hand 15 (fun W => W.cell? ⟨b, o + i * 4, none⟩ = some (.int .u16 x0) ∧ W.cell? ⟨b, o + i * 4 + 1, none⟩ = some (.int .u16 x1) ∧ W.cell? ⟨b, o + i * 4 + 2, none⟩ = some (.int .u16 x2) ∧ W.cell? ⟨b, o + i * 4 + 3, none⟩ = some (.int .u16 x3)) (by kernel_rfl) (by kernel_rfl) ?_
        rw [show Array.replicate 15 false = #[false, false, false, false, false, false, false, false, false, false, false, false, false, false, false] from rfl]
        refine held_take (i := 0) (d := 58) (v := .pointer (some ⟨p, 0, none⟩)) rfl rfl (by kernel_rfl) (by kernel_rfl) (by kernel_rfl) (fun _ _ _ h => h) (by rfl) (fun W _ => run_move_is (.tmp 11) rfl rfl W) hHeld ?_
        simp only [Act.put, List.setIfInBounds_toArray, List.set_cons_zero, List.set_cons_succ]
        refine held_take (i := 1) (d := 59) (v := .pointer (some ⟨m, 0, none⟩)) rfl rfl (by kernel_rfl) (by kernel_rfl) (by kernel_rfl) (fun _ _ _ h => h) (by rfl) (fun W _ => run_move_is (.tmp 13) rfl rfl W) hHeld ?_
        simp only [Act.put, List.setIfInBounds_toArray, List.set_cons_zero, List.set_cons_succ]
        refine held_take (i := 2) (d := 60) (v := .slice (some ⟨b, o, none⟩) len2 cap2) rfl rfl (by kernel_rfl) (by kernel_rfl) (by kernel_rfl) (fun _ _ _ h => h) (by rfl) (fun W _ => run_move_is (.tmp 2) rfl rfl W) hHeld ?_
        simp only [Act.put, List.setIfInBounds_toArray, List.set_cons_zero, List.set_cons_succ]
        refine held_take (i := 3) (d := 61) (v := .int .i64 (i : Int)) rfl rfl (by kernel_rfl) (by kernel_rfl) (by kernel_rfl) (fun _ _ _ h => h) (by rfl) (fun W _ => run_move_is (.tmp 16) rfl rfl W) hHeld ?_
        simp only [Act.put, List.setIfInBounds_toArray, List.set_cons_zero, List.set_cons_succ]
        refine held_take (i := 4) (d := 62) (v := .pointer (some ⟨b, o + i * 4, none⟩)) rfl rfl (by kernel_rfl) (by kernel_rfl) (by kernel_rfl) (fun _ _ _ h => h) (by rfl) (fun W _ => by go_simp) hHeld ?_
        simp only [Act.put, List.setIfInBounds_toArray, List.set_cons_zero, List.set_cons_succ]
        refine held_take (i := 5) (d := 63) (v := .agg #[.int .u16 x0, .int .u16 x1, .int .u16 x2, .int .u16 x3]) rfl rfl (by kernel_rfl) (by kernel_rfl) (by kernel_rfl) (fun _ _ _ h => h) (by rfl) (fun W hS => by obtain ⟨h1, h2, h3, h4⟩ := hS; go_simp) hHeld ?_
        simp only [Act.put, List.setIfInBounds_toArray, List.set_cons_zero, List.set_cons_succ]
        refine held_take (i := 6) (d := 64) (v := .int .u8 a1) rfl rfl (by kernel_rfl) (by kernel_rfl) (by kernel_rfl) (fun _ _ _ h => h) (by rfl) (fun W _ => run_move_is (.tmp 1) rfl rfl W) hHeld ?_
        simp only [Act.put, List.setIfInBounds_toArray, List.set_cons_zero, List.set_cons_succ]
        refine held_take (i := 8) (d := 66) (v := .slice A n c) rfl rfl (by kernel_rfl) (by kernel_rfl) (by kernel_rfl) (fun _ _ _ h => h) (by rfl) (fun W _ => run_move_is (.tmp 15) rfl rfl W) hHeld ?_
        simp only [Act.put, List.setIfInBounds_toArray, List.set_cons_zero, List.set_cons_succ]
        refine held_one (i := 7) (by kernel_rfl) ?_
        refine held_callX (d := 65) rfl rfl (by rfl) rfl (by kernel_rfl) Try.func10 (by kernel_rfl) (HFS.out _) ?_
        rintro e w4 ⟨rfl, rfl⟩
        refine ⟨_, rfl, hHeld, ?_⟩
        simp only [Act.put, List.setIfInBounds_toArray, List.set_cons_zero, List.set_cons_succ]
        have HT4 := Lib.hid (HT0.out.go HD0.out)
        have HE4 := Lib.hid (HE0.out.go HD0.out (c' := rc cf wr.heap.size 0) (fun g hg => rc_old hg))
        have HB4 := Lib.hid (Below.then HB.out HD0.out (Nat.le_refl _))
        clear HT0 HE0 HB
        generalize rc cf wr.heap.size 0 = c4 at *
        have HST := Lib.hid (step13_any w.heap.size N _ c4 p m t x0 x1 x2 x3 F A n c l HT4.out HE4.out hN4 (by omega) c0 c1 c2 c3 hF)
        unfold StE at HST
        refine held_one (i := 9) (by kernel_rfl) ?_
        refine held_callX (d := 67) rfl rfl (by rfl) rfl (by kernel_rfl) Try.func12 (by kernel_rfl) HST.out ?_
        rintro e w5 ⟨A5, n5, cc5, rfl, hb5, c5, t5, l5, hT5, hE5, hn5⟩
        replace hHeld : w5.cell? ⟨b, o + i * 4, none⟩ = some (.int .u16 x0) ∧ w5.cell? ⟨b, o + i * 4 + 1, none⟩ = some (.int .u16 x1) ∧ w5.cell? ⟨b, o + i * 4 + 2, none⟩ = some (.int .u16 x2) ∧ w5.cell? ⟨b, o + i * 4 + 3, none⟩ = some (.int .u16 x3) := ⟨(hb5.cell (p := ⟨b, _, none⟩) hb).trans hHeld.1, (hb5.cell (p := ⟨b, _, none⟩) hb).trans hHeld.2.1, (hb5.cell (p := ⟨b, _, none⟩) hb).trans hHeld.2.2.1, (hb5.cell (p := ⟨b, _, none⟩) hb).trans hHeld.2.2.2⟩
        refine ⟨_, rfl, hHeld, ?_⟩
        simp only [Act.put, List.setIfInBounds_toArray, List.set_cons_zero, List.set_cons_succ]
        have HT5 := Lib.hid hT5
        have HE5 := Lib.hid hE5
        have HB5 := Lib.hid (HB4.out.trans hb5)
        clear hb5 hT5 hE5 HST HT4 HE4 HB4 g0 g1 g2 g3
        refine held_take (i := 10) (d := 57) (v := .tuple #[.slice A5 n5 cc5, .bool true]) rfl rfl (by kernel_rfl) (by kernel_rfl) (by kernel_rfl) (fun _ _ _ h => h) (by rfl) (fun W _ => run_move_is (.tmp 67) rfl rfl W) hHeld ?_
        simp only [Act.put, List.setIfInBounds_toArray, List.set_cons_zero, List.set_cons_succ]
        refine held_take (i := 11) (d := 68) (v := .slice A5 n5 cc5) rfl rfl (by kernel_rfl) (by kernel_rfl) (by kernel_rfl) (fun _ _ _ h => h) (by rfl) (fun W _ => by go_simp) hHeld ?_
        simp only [Act.put, List.setIfInBounds_toArray, List.set_cons_zero, List.set_cons_succ]
        refine held_take (i := 12) (d := 69) (v := .bool true) rfl rfl (by kernel_rfl) (by kernel_rfl) (by kernel_rfl) (fun _ _ _ h => h) (by rfl) (fun W _ => by go_simp) hHeld ?_
        simp only [Act.put, List.setIfInBounds_toArray, List.set_cons_zero, List.set_cons_succ]
        refine held_take (i := 13) (d := 17) (v := .slice A5 n5 cc5) rfl rfl (by kernel_rfl) (by kernel_rfl) (by kernel_rfl) (fun _ _ _ h => h) (by rfl) (fun W _ => by go_simp) hHeld ?_
        simp only [Act.put, List.setIfInBounds_toArray, List.set_cons_zero, List.set_cons_succ]
        refine held_take (i := 14) (d := 18) (v := .bool true) rfl rfl (by kernel_rfl) (by kernel_rfl) (by kernel_rfl) (fun _ _ _ h => h) (by rfl) (fun W _ => by go_simp) hHeld ?_
        simp only [Act.put, List.setIfInBounds_toArray, List.set_cons_zero, List.set_cons_succ]
        refine wpAnyH_done (by kernel_rfl) ?_ _
        clear hHeld
        have HP5 : Hid (Pv w N p m A5 n5 cc5 w5) := Lib.hid ⟨HB5.out, _, _, _, HT5.out, HE5.out⟩
        clear HT5 HE5 HB5
        go_wp2
        go_roundw
        case rel => exact ⟨i + 1, by omega, by omega, by go_num, _, _, _, rfl, by omega, HP5⟩
        case measure => simp [intOf]; omega
      · have hi2 : ¬ (i : Int) < 20 := by omega
        obtain ⟨hB, cf, t, l, hT, hE⟩ := hh.out
        have HT := Lib.hid hT
        have HB := Lib.hid hB
        clear hh hB hT hE
        have HR1 := Lib.hid (resS_any wr cf 1 p N t h HT.out.tb HT.out.wf hN4 HU.out)
        have HR2 : Hid (∀ W C, Hmb W C 2 m t → Calls Try.prog 16 #[.pointer (some ⟨m, 0, none⟩), .int .u64 h] W (RsE W t h)) := Lib.hid (fun W C hM => resM_any W C 2 m N t h hM HT.out.wf hN4 HU.out)
        unfold RsE at HR1 HR2
        obtain ⟨⟨v1, v2, v3, v4, v5⟩, hv⟩ : ∃ v, t.resV h = v := ⟨_, rfl⟩
        obtain ⟨er, her⟩ : ∃ er, t.resE h = er := ⟨_, rfl⟩
        rw [hv, her] at HR1
        simp only [hv, her] at HR2
        unfold enV at HR1 HR2
        simp only at HR1 HR2
        clear hv her
        go_wp2_with fail
        refine HR1.out.mono ?_
        rintro e w9 ⟨rfl, hb9⟩
        have hb10 : Below wr.heap.size wr (w9.alloc (.cells #[.int .u64 v1, .int .i64 v2, .int .i64 v3, .int .i64 v4, .int .i64 v5] 44)) := hb9.alloc hb9.size _
        have HT10 := Lib.hid (HT.out.go hb10)
        have HB10 := Lib.hid (Below.then HB.out hb10 (Nat.le_refl _))
        have HX10 := Lib.hid (EnB.new (w := w9) (h := v1) (o := v2) (t := v3) (f := v4) (l := v5))
        clear hb9 hb10 HR1 HT HB
        go_wp2_with fail
        generalize w9.alloc (.cells #[.int .u64 v1, .int .i64 v2, .int .i64 v3, .int .i64 v4, .int .i64 v5] 44) = w10 at *
        generalize w9.heap.size = bx at *
        generalize rc cf wr.heap.size 0 = c10 at *
        refine (HR2.out w10 c10 HT10.out.mb).mono ?_
        rintro e w11 ⟨rfl, hb11⟩
        have hb12 : Below w10.heap.size w10 (w11.alloc (.cells #[.int .u64 v1, .int .i64 v2, .int .i64 v3, .int .i64 v4, .int .i64 v5] 44)) := hb11.alloc hb11.size _
        have HT12 := Lib.hid (HT10.out.go hb12)
        have HB12 := Lib.hid (Below.then HB10.out hb12 (Nat.le_refl _))
        have HX12 := Lib.hid (HX10.out.go hb12)
        have HY12 := Lib.hid (EnB.new (w := w11) (h := v1) (o := v2) (t := v3) (f := v4) (l := v5))
        clear hb11 hb12 HR2 HT10 HB10 HX10
        go_wp2_with fail
        generalize w11.alloc (.cells #[.int .u64 v1, .int .i64 v2, .int .i64 v3, .int .i64 v4, .int .i64 v5] 44) = w12 at *
        generalize w11.heap.size = by_ at *
        generalize rc c10 w10.heap.size 0 = c12 at *
        refine (awake13_any w12).mono ?_
        rintro e w13 ⟨rfl, hb13⟩
        have HT13 := Lib.hid (HT12.out.go hb13)
        have HB13 := Lib.hid (Below.then HB12.out hb13 (Nat.le_refl _))
        obtain ⟨r0, r1, r2, r3, r4⟩ := (HX12.out.go hb13).cells
        obtain ⟨s0, s1, s2, s3, s4⟩ := (HY12.out.go hb13).cells
        have heq := same_en v1 v2 v3 v4 v5
        clear hb13 HT12 HB12 HX12 HY12
        generalize rc c12 w12.heap.size 0 = c13 at *
        have HG1 := Lib.hid (givT_any w13 c13 1 p N t h own HT13.out.tb HT13.out.wf hN4 HU.out)
        have HG2 : Hid (∀ W C, Hmb W C 2 m t → Calls Try.prog 18 #[.pointer (some ⟨m, 0, none⟩), .int .u64 h, .int .i64 own] W (DpE Hmb W C 2 m (t.givE h own) (t.givN h own))) := Lib.hid (fun W C hM => givM_any W C 2 m N t h own hM HT13.out.wf hN4 HU.out)
        unfold DpE at HG1
        obtain ⟨gv, hgv⟩ : ∃ gv, t.givE h own = gv := ⟨_, rfl⟩
        rw [hgv] at HG1
        simp only [hgv] at HG2
        clear hgv
        go_wp2_with fail
        refine HG1.out.mono ?_
        rintro e w14 ⟨rfl, hT14, hk14⟩
        have HM15 := Lib.hid (HG2.out w14 _ (HT13.out.mid hk14))
        unfold DpE at HM15
        have HT14 := Lib.hid hT14
        have HK14 := Lib.hid hk14
        clear hT14 hk14 HG1 HG2 r0 r1 r2 r3 r4 s0 s1 s2 s3 s4 heq
        go_wp2_with fail
        refine HM15.out.mono ?_
        rintro e w15 ⟨rfl, hM15, hk15⟩
        obtain ⟨hT15, hz15⟩ := HT13.out.both HT14.out HK14.out hM15 hk15 (HT13.out.wf.giv HU.out)
        have HT15 := Lib.hid hT15
        have HB15 := Lib.hid (HB13.out.trans (hz15.below HT13.out.lo HT13.out.bd))
        clear hM15 hk15 hT15 hz15 HM15 HT14 HK14 HT13 HB13
        generalize rc (rc c13 w13.heap.size 1) w14.heap.size 2 = c15 at *
        obtain ⟨t2, ht2⟩ : ∃ t2, t.givN h own = t2 := ⟨_, rfl⟩
        rw [ht2] at HT15
        clear ht2
        have HE1 := Lib.hid (drpT_any w15 c15 1 p N t2 h HT15.out.tb HT15.out.wf hN4 HU.out)
        have HE2 : Hid (∀ W C, Hmb W C 2 m t2 → Calls Try.prog 20 #[.pointer (some ⟨m, 0, none⟩), .int .u64 h] W (DpE Hmb W C 2 m (t2.resE h) (t2.drpN h))) := Lib.hid (fun W C hM => drpM_any W C 2 m N t2 h hM HT15.out.wf hN4 HU.out)
        unfold DpE at HE1
        obtain ⟨dv, hdv⟩ : ∃ dv, t2.resE h = dv := ⟨_, rfl⟩
        rw [hdv] at HE1
        simp only [hdv] at HE2
        clear hdv
        go_wp2_with fail
        refine HE1.out.mono ?_
        rintro e w16 ⟨rfl, hT16, hk16⟩
        have HM17 := Lib.hid (HE2.out w16 _ (HT15.out.mid hk16))
        unfold DpE at HM17
        have HT16 := Lib.hid hT16
        have HK16 := Lib.hid hk16
        clear hT16 hk16 HE1 HE2
        go_wp2_with fail
        refine HM17.out.mono ?_
        rintro e w17 ⟨rfl, hM17, hk17⟩
        obtain ⟨hT17, hz17⟩ := HT15.out.both HT16.out HK16.out hM17 hk17 (HT15.out.wf.drp HU.out)
        have HAL := Lib.hid (alike13_any w17 _ _ 1 p 2 m N _ hT17.tb hT17.mb hT17.wf hN4)
        have HB17 := Lib.hid (HB15.out.trans (hz17.below HT15.out.lo HT15.out.bd))
        clear hM17 hk17 hT17 hz17 HM17 HT16 HK16 HT15 HB15
        go_wp2_with fail
        refine HAL.out.mono ?_
        rintro e w18 ⟨rfl, hb18⟩
        have HB18 := Lib.hid (Below.then HB17.out hb18 (Nat.le_refl _))
        clear hb18 HAL
        go_wp2
        go_ret
        exact ⟨rfl, HB18.out⟩
    · have hi1 : ¬ (i : Int) < (len2 : Int) := by omega
      obtain ⟨hB, cf, t, l, hT, hE⟩ := hh.out
      have HT := Lib.hid hT
      have HB := Lib.hid hB
      clear hh hB hT hE
      have HR1 := Lib.hid (resS_any wr cf 1 p N t h HT.out.tb HT.out.wf hN4 HU.out)
      have HR2 : Hid (∀ W C, Hmb W C 2 m t → Calls Try.prog 16 #[.pointer (some ⟨m, 0, none⟩), .int .u64 h] W (RsE W t h)) := Lib.hid (fun W C hM => resM_any W C 2 m N t h hM HT.out.wf hN4 HU.out)
      unfold RsE at HR1 HR2
      obtain ⟨⟨v1, v2, v3, v4, v5⟩, hv⟩ : ∃ v, t.resV h = v := ⟨_, rfl⟩
      obtain ⟨er, her⟩ : ∃ er, t.resE h = er := ⟨_, rfl⟩
      rw [hv, her] at HR1
      simp only [hv, her] at HR2
      unfold enV at HR1 HR2
      simp only at HR1 HR2
      clear hv her
      go_wp2_with fail
      refine HR1.out.mono ?_
      rintro e w9 ⟨rfl, hb9⟩
      have hb10 : Below wr.heap.size wr (w9.alloc (.cells #[.int .u64 v1, .int .i64 v2, .int .i64 v3, .int .i64 v4, .int .i64 v5] 44)) := hb9.alloc hb9.size _
      have HT10 := Lib.hid (HT.out.go hb10)
      have HB10 := Lib.hid (Below.then HB.out hb10 (Nat.le_refl _))
      have HX10 := Lib.hid (EnB.new (w := w9) (h := v1) (o := v2) (t := v3) (f := v4) (l := v5))
      clear hb9 hb10 HR1 HT HB
      go_wp2_with fail
      generalize w9.alloc (.cells #[.int .u64 v1, .int .i64 v2, .int .i64 v3, .int .i64 v4, .int .i64 v5] 44) = w10 at *
      generalize w9.heap.size = bx at *
      generalize rc cf wr.heap.size 0 = c10 at *
      refine (HR2.out w10 c10 HT10.out.mb).mono ?_
      rintro e w11 ⟨rfl, hb11⟩
      have hb12 : Below w10.heap.size w10 (w11.alloc (.cells #[.int .u64 v1, .int .i64 v2, .int .i64 v3, .int .i64 v4, .int .i64 v5] 44)) := hb11.alloc hb11.size _
      have HT12 := Lib.hid (HT10.out.go hb12)
      have HB12 := Lib.hid (Below.then HB10.out hb12 (Nat.le_refl _))
      have HX12 := Lib.hid (HX10.out.go hb12)
      have HY12 := Lib.hid (EnB.new (w := w11) (h := v1) (o := v2) (t := v3) (f := v4) (l := v5))
      clear hb11 hb12 HR2 HT10 HB10 HX10
      go_wp2_with fail
      generalize w11.alloc (.cells #[.int .u64 v1, .int .i64 v2, .int .i64 v3, .int .i64 v4, .int .i64 v5] 44) = w12 at *
      generalize w11.heap.size = by_ at *
      generalize rc c10 w10.heap.size 0 = c12 at *
      refine (awake13_any w12).mono ?_
      rintro e w13 ⟨rfl, hb13⟩
      have HT13 := Lib.hid (HT12.out.go hb13)
      have HB13 := Lib.hid (Below.then HB12.out hb13 (Nat.le_refl _))
      obtain ⟨r0, r1, r2, r3, r4⟩ := (HX12.out.go hb13).cells
      obtain ⟨s0, s1, s2, s3, s4⟩ := (HY12.out.go hb13).cells
      have heq := same_en v1 v2 v3 v4 v5
      clear hb13 HT12 HB12 HX12 HY12
      generalize rc c12 w12.heap.size 0 = c13 at *
      have HG1 := Lib.hid (givT_any w13 c13 1 p N t h own HT13.out.tb HT13.out.wf hN4 HU.out)
      have HG2 : Hid (∀ W C, Hmb W C 2 m t → Calls Try.prog 18 #[.pointer (some ⟨m, 0, none⟩), .int .u64 h, .int .i64 own] W (DpE Hmb W C 2 m (t.givE h own) (t.givN h own))) := Lib.hid (fun W C hM => givM_any W C 2 m N t h own hM HT13.out.wf hN4 HU.out)
      unfold DpE at HG1
      obtain ⟨gv, hgv⟩ : ∃ gv, t.givE h own = gv := ⟨_, rfl⟩
      rw [hgv] at HG1
      simp only [hgv] at HG2
      clear hgv
      go_wp2_with fail
      refine HG1.out.mono ?_
      rintro e w14 ⟨rfl, hT14, hk14⟩
      have HM15 := Lib.hid (HG2.out w14 _ (HT13.out.mid hk14))
      unfold DpE at HM15
      have HT14 := Lib.hid hT14
      have HK14 := Lib.hid hk14
      clear hT14 hk14 HG1 HG2 r0 r1 r2 r3 r4 s0 s1 s2 s3 s4 heq
      go_wp2_with fail
      refine HM15.out.mono ?_
      rintro e w15 ⟨rfl, hM15, hk15⟩
      obtain ⟨hT15, hz15⟩ := HT13.out.both HT14.out HK14.out hM15 hk15 (HT13.out.wf.giv HU.out)
      have HT15 := Lib.hid hT15
      have HB15 := Lib.hid (HB13.out.trans (hz15.below HT13.out.lo HT13.out.bd))
      clear hM15 hk15 hT15 hz15 HM15 HT14 HK14 HT13 HB13
      generalize rc (rc c13 w13.heap.size 1) w14.heap.size 2 = c15 at *
      obtain ⟨t2, ht2⟩ : ∃ t2, t.givN h own = t2 := ⟨_, rfl⟩
      rw [ht2] at HT15
      clear ht2
      have HE1 := Lib.hid (drpT_any w15 c15 1 p N t2 h HT15.out.tb HT15.out.wf hN4 HU.out)
      have HE2 : Hid (∀ W C, Hmb W C 2 m t2 → Calls Try.prog 20 #[.pointer (some ⟨m, 0, none⟩), .int .u64 h] W (DpE Hmb W C 2 m (t2.resE h) (t2.drpN h))) := Lib.hid (fun W C hM => drpM_any W C 2 m N t2 h hM HT15.out.wf hN4 HU.out)
      unfold DpE at HE1
      obtain ⟨dv, hdv⟩ : ∃ dv, t2.resE h = dv := ⟨_, rfl⟩
      rw [hdv] at HE1
      simp only [hdv] at HE2
      clear hdv
      go_wp2_with fail
      refine HE1.out.mono ?_
      rintro e w16 ⟨rfl, hT16, hk16⟩
      have HM17 := Lib.hid (HE2.out w16 _ (HT15.out.mid hk16))
      unfold DpE at HM17
      have HT16 := Lib.hid hT16
      have HK16 := Lib.hid hk16
      clear hT16 hk16 HE1 HE2
      go_wp2_with fail
      refine HM17.out.mono ?_
      rintro e w17 ⟨rfl, hM17, hk17⟩
      obtain ⟨hT17, hz17⟩ := HT15.out.both HT16.out HK16.out hM17 hk17 (HT15.out.wf.drp HU.out)
      have HAL := Lib.hid (alike13_any w17 _ _ 1 p 2 m N _ hT17.tb hT17.mb hT17.wf hN4)
      have HB17 := Lib.hid (HB15.out.trans (hz17.below HT15.out.lo HT15.out.bd))
      clear hM17 hk17 hT17 hz17 HM17 HT16 HK16 HT15 HB15
      go_wp2_with fail
      refine HAL.out.mono ?_
      rintro e w18 ⟨rfl, hb18⟩
      have HB18 := Lib.hid (Below.then HB17.out hb18 (Nat.le_refl _))
      clear hb18 HAL
      go_wp2
      go_ret
      exact ⟨rfl, HB18.out⟩
end Go.Proofs.Ytaoojgnkbcoggaa
