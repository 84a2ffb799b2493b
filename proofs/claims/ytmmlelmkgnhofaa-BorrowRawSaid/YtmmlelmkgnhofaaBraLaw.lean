/-
  The law BorrowRaw as a walk: called with any arguments of its types it returns true. No conditions.
-/
import Derived.Test.YtmmlelmkgnhofaaPvb
namespace Go.Proofs.Ytmmlelmkgnhofaa
open Go.ChangeShapes Go.WideShapes Go.RowKit
set_option linter.unusedVariables false
set_option linter.unusedSimpArgs false
set_option maxHeartbeats 16000000
set_option maxRecDepth 100000

theorem borrowRaw_walk (a0 : Option Addr) (len0 cap0 : Nat) (a1 a2 a3 a4 : Int) (a5 : Bool) (w : World) (w0 : Fou w w.heap.size a0 len0 cap0) (w1 : (Lit.int .i64 a1).wf = true) (w2 : (Lit.int .i64 a2).wf = true) (w3 : (Lit.int .i64 a3).wf = true) (w4 : (Lit.int .i64 a4).wf = true) :
    Calls Try.prog 4 #[.slice a0 len0 cap0, .int .i64 a1, .int .i64 a2, .int .i64 a3, .int .i64 a4, .bool a5] w fun e w' => e = .returned (.bool true) ∧ Below w.heap.size w w' := by
  have HD := Lib.hid w0
  have hcap := w0.cap
  have hsm := w0.small
  unfold maxLen at hsm
  have HO1 : Hid (Ri a1) := Lib.hid w1
  have HN := Lib.hid (newL_any w (fun _ => 0) 1)
  clear w0 w1 w2 w3 w4
  go_enter Try.func4, Try.ntmps4
  go_wp2_with fail
  refine HN.out.mono ?_
  rintro e wa ⟨p, rfl, hp, hL, hb⟩
  have HP0 : Hid (Pv w 0 p wa.heap.size (wa.alloc (.cells #[.slice none 0 0] 28))) := Lib.hid ⟨hb.alloc hb.size _, _, _, Two.made hL hb (Nat.le_refl _)⟩
  clear HN hL hb
  go_wp2
  generalize wa.alloc (.cells #[.slice none 0 0] 28) = wb at *
  generalize wa.heap.size = m at *
  go_loopw [15] (fun kv wr => ∃ i : Nat, i ≤ len0 ∧ i ≤ 16 ∧ kv = .int .i64 i ∧ Hid (Pv w i p m wr)) (fun kv _ => 16 - (intOf kv).toNat)
  case atStart => exact ⟨0, by omega, by omega, rfl, HP0⟩
  case round =>
    obtain ⟨i, hi, hi16, rfl, hh⟩ := hrel
    have hi0 : (0 : Int) ≤ (i : Int) := by omega
    by_cases hin : i < len0 ∧ i < 16
    · have hi1 : (i : Int) < (len0 : Int) := by omega
      have hi2 : (i : Int) < 16 := by omega
      obtain ⟨hB, cf, L, hT⟩ := hh.out
      obtain ⟨b, o, x0, x1, x2, x3, rfl, hc, c0, c1, c2, c3⟩ := HD.out.load hin.1
      obtain ⟨g0, g1, g2, g3⟩ := hc _ hB
      have HB0 := Lib.hid hB
      have HT0 := Lib.hid hT
      have HST := Lib.hid (step14_any (x0 := x0) (x1 := x1) (x2 := x2) (x3 := x3) hT (by omega) c0 c1 c2 c3)
      clear hc hh hB hT
      go_wp2_with fail
      refine HST.out.mono ?_
      rintro e w5 hst
      obtain ⟨rfl, hb5, d5, hT5⟩ := Pv.step HB0.out HT0.out hst
      have HP : Hid (Pv w (i + 1) p m w5) := Lib.hid ⟨hb5, _, _, hT5⟩
      clear hst hb5 hT5 HST HB0 HT0 g0 g1 g2 g3
      go_wp2
      go_roundw
      case rel => exact ⟨i + 1, by omega, by omega, by go_num, HP⟩
      case measure => simp [intOf]; omega
    · rcases (by omega : (¬ i < len0) ∨ (i < len0 ∧ ¬ i < 16)) with hs | ⟨hs, hs2⟩
      · have hi1 : ¬ (i : Int) < (len0 : Int) := by omega
        have HB := Lib.hid hh.out.1
        obtain ⟨_, cf, L, hT⟩ := hh.out
        obtain ⟨N, hNi⟩ : ∃ N, i = N := ⟨_, rfl⟩
        rw [hNi] at hT
        have hN16 : N ≤ 16 := by omega
        have HT := Lib.hid hT
        have HA := Lib.hid (access_any (p := a2) a5 a4 hT.lb.toq HO1.out hT.wl.srt (by have := hT.wl.len; omega))
        clear hh hT hNi
        go_wp2_with fail
        refine HA.out.mono ?_
        rintro e wx ⟨rfl, hb⟩
        have HT1 := Lib.hid (HT.out.go hb)
        have HB1 := Lib.hid (Below.then HB.out hb (Nat.le_refl _))
        have HA2 := Lib.hid (accR_any (o := a1) (pl := a2) a5 a4 HT1.out.mb.r HT1.out.wl (by omega))
        clear HA HT HB hb
        go_wp2_with fail
        refine HA2.out.mono ?_
        rintro e w2 ⟨rfl, hb⟩
        have HT2 := Lib.hid (HT1.out.go hb)
        have HB2 := Lib.hid (Below.then HB1.out hb (Nat.le_refl _))
        clear HA2 HT1 HB1 hb
        generalize rc (rc cf wr.heap.size 0) wx.heap.size 0 = c2 at *
        obtain ⟨L2, hLL⟩ : ∃ l, L = l := ⟨_, rfl⟩
        rw [hLL] at HT2
        clear hLL
        have HI := Lib.hid (lend_any (o := a1) (h := a2) (m := a3) HT2.out.lb HT2.out.wl (by omega) HO1.out)
        go_wp2_with fail
        refine HI.out.mono ?_
        rintro e w3 ⟨rfl, hL, hk⟩
        have HL3 := Lib.hid hL
        have HK3 := Lib.hid hk
        have HJ := Lib.hid (lendR_any (o := a1) (h := a2) (m := a3) (HT2.out.mid hk) HT2.out.wl (by omega))
        clear HI hL hk
        go_wp2_with fail
        refine HJ.out.mono ?_
        rintro e w4 ⟨rfl, hM, hk⟩
        obtain ⟨hT, hz⟩ := HT2.out.both HL3.out HK3.out hM hk (HT2.out.wl.lend HO1.out)
        have HT4 := Lib.hid hT
        have HB4 := Lib.hid (HB2.out.trans (hz.below HT2.out.lo HT2.out.bd))
        clear hT hz hM hk HJ HL3 HK3 HT2 HB2
        generalize rc (rc c2 w2.heap.size 1) w3.heap.size 2 = c4 at *
        obtain ⟨L4, hLL⟩ : ∃ l, lendL a1 a2 a3 L2 = l := ⟨_, rfl⟩
        rw [hLL] at HT4
        clear hLL
        have HI := Lib.hid (lend_any (o := a1) (h := a2) (m := 1) HT4.out.lb HT4.out.wl (by omega) HO1.out)
        go_wp2_with fail
        refine HI.out.mono ?_
        rintro e w5 ⟨rfl, hL, hk⟩
        have HL5 := Lib.hid hL
        have HK5 := Lib.hid hk
        have HJ := Lib.hid (lendR_any (o := a1) (h := a2) (m := 1) (HT4.out.mid hk) HT4.out.wl (by omega))
        clear HI hL hk
        go_wp2_with fail
        refine HJ.out.mono ?_
        rintro e w6 ⟨rfl, hM, hk⟩
        obtain ⟨hT, hz⟩ := HT4.out.both HL5.out HK5.out hM hk (HT4.out.wl.lend HO1.out)
        have HT6 := Lib.hid hT
        have HB6 := Lib.hid (HB4.out.trans (hz.below HT4.out.lo HT4.out.bd))
        clear hT hz hM hk HJ HL5 HK5 HT4 HB4
        generalize rc (rc c4 w4.heap.size 1) w5.heap.size 2 = c6 at *
        obtain ⟨L6, hLL⟩ : ∃ l, lendL a1 a2 1 L4 = l := ⟨_, rfl⟩
        rw [hLL] at HT6
        clear hLL
        go_wp2_with fail
        have hd : Below w6.heap.size w6 w6.drew := below_drewN (Below.refl _ _) 1
        have HTD := Lib.hid (HT6.out.go hd)
        have HBD := Lib.hid (Below.then HB6.out hd (Nat.le_refl _))
        clear HT6 HB6 hd
        have HT6 := HTD
        have HB6 := HBD
        clear HTD HBD
        refine wp_region_hand 56 (fun _ => True) (by kernel_rfl) (by kernel_rfl) ?_
        rw [show Array.replicate 56 false = #[false, false, false, false, false, false, false, false, false, false, false, false, false, false, false, false, false, false, false, false, false, false, false, false, false, false, false, false, false, false, false, false, false, false, false, false, false, false, false, false, false, false, false, false, false, false, false, false, false, false, false, false, false, false, false, false] from rfl]
        have hHeld := trivial
        generalize rc c6 w6.heap.size 0 = cd at *
        generalize w6.drew = wd at *
        have HCL := Lib.hid (awake14_any wd)
        refine held_one (i := 0) (by kernel_rfl) ?_
        refine held_callX (d := 73) rfl rfl (by rfl) rfl (by kernel_rfl) Try.func13 (by kernel_rfl) HCL.out ?_
        rintro e w7 ⟨rfl, hb7⟩
        have HT7 := Lib.hid (HT6.out.go hb7)
        have HB7 := Lib.hid (Below.then HB6.out hb7 (Nat.le_refl _))
        clear hb7 HT6 HB6
        refine ⟨_, rfl, ?_⟩
        clear HCL hHeld
        have hHeld := trivial
        generalize rc cd wd.heap.size 0 = c7 at *
        refine ⟨hHeld, ?_⟩
        simp only [Act.put, List.setIfInBounds_toArray, List.set_cons_zero, List.set_cons_succ]
        refine held_take (i := 1) (d := 74) (v := .bool true) rfl rfl (by kernel_rfl) (by kernel_rfl) (by kernel_rfl) (fun _ _ _ h => h) (by rfl) (fun W _ => run_move_is (.tmp 73) rfl rfl W) hHeld ?_
        simp only [Act.put, List.setIfInBounds_toArray, List.set_cons_zero, List.set_cons_succ]
        refine held_take (i := 2) (d := 75) (v := .bool true) rfl rfl (by kernel_rfl) (by kernel_rfl) (by kernel_rfl) (fun _ _ _ h => h) (by rfl) (fun W _ => run_move_is (.tmp 16) rfl rfl W) hHeld ?_
        simp only [Act.put, List.setIfInBounds_toArray, List.set_cons_zero, List.set_cons_succ]
        refine held_take (i := 3) (d := 76) (v := .bool true) rfl rfl (by kernel_rfl) (by kernel_rfl) (by kernel_rfl) (fun _ _ _ h => h) (by rfl) (fun W _ => by go_simp) hHeld ?_
        simp only [Act.put, List.setIfInBounds_toArray, List.set_cons_zero, List.set_cons_succ]
        refine held_take (i := 4) (d := 77) (v := .bool true) rfl rfl (by kernel_rfl) (by kernel_rfl) (by kernel_rfl) (fun _ _ _ h => h) (by rfl) (fun W _ => run_move_is (.tmp 76) rfl rfl W) hHeld ?_
        simp only [Act.put, List.setIfInBounds_toArray, List.set_cons_zero, List.set_cons_succ]
        refine held_take (i := 5) (d := 78) (v := .bool true) rfl rfl (by kernel_rfl) (by kernel_rfl) (by kernel_rfl) (fun _ _ _ h => h) (by rfl) (fun W _ => run_move_is (.tmp 17) rfl rfl W) hHeld ?_
        simp only [Act.put, List.setIfInBounds_toArray, List.set_cons_zero, List.set_cons_succ]
        refine held_take (i := 6) (d := 79) (v := .bool true) rfl rfl (by kernel_rfl) (by kernel_rfl) (by kernel_rfl) (fun _ _ _ h => h) (by rfl) (fun W _ => by go_simp) hHeld ?_
        simp only [Act.put, List.setIfInBounds_toArray, List.set_cons_zero, List.set_cons_succ]
        refine held_take (i := 7) (d := 80) (v := .bool true) rfl rfl (by kernel_rfl) (by kernel_rfl) (by kernel_rfl) (fun _ _ _ h => h) (by rfl) (fun W _ => run_move_is (.tmp 79) rfl rfl W) hHeld ?_
        simp only [Act.put, List.setIfInBounds_toArray, List.set_cons_zero, List.set_cons_succ]
        refine held_take (i := 8) (d := 81) (v := .bool true) rfl rfl (by kernel_rfl) (by kernel_rfl) (by kernel_rfl) (fun _ _ _ h => h) (by rfl) (fun W _ => run_move_is (.tmp 18) rfl rfl W) hHeld ?_
        simp only [Act.put, List.setIfInBounds_toArray, List.set_cons_zero, List.set_cons_succ]
        refine held_take (i := 9) (d := 82) (v := .bool true) rfl rfl (by kernel_rfl) (by kernel_rfl) (by kernel_rfl) (fun _ _ _ h => h) (by rfl) (fun W _ => by go_simp) hHeld ?_
        simp only [Act.put, List.setIfInBounds_toArray, List.set_cons_zero, List.set_cons_succ]
        refine held_take (i := 10) (d := 83) (v := .bool true) rfl rfl (by kernel_rfl) (by kernel_rfl) (by kernel_rfl) (fun _ _ _ h => h) (by rfl) (fun W _ => run_move_is (.tmp 82) rfl rfl W) hHeld ?_
        simp only [Act.put, List.setIfInBounds_toArray, List.set_cons_zero, List.set_cons_succ]
        refine held_take (i := 11) (d := 84) (v := .pointer (some ⟨p, 0, none⟩)) rfl rfl (by kernel_rfl) (by kernel_rfl) (by kernel_rfl) (fun _ _ _ h => h) (by rfl) (fun W _ => run_move_is (.tmp 13) rfl rfl W) hHeld ?_
        simp only [Act.put, List.setIfInBounds_toArray, List.set_cons_zero, List.set_cons_succ]
        refine held_take (i := 12) (d := 85) (v := .pointer (some ⟨m, 0, none⟩)) rfl rfl (by kernel_rfl) (by kernel_rfl) (by kernel_rfl) (fun _ _ _ h => h) (by rfl) (fun W _ => run_move_is (.tmp 14) rfl rfl W) hHeld ?_
        simp only [Act.put, List.setIfInBounds_toArray, List.set_cons_zero, List.set_cons_succ]
        refine held_take (i := 13) (d := 86) (v := .int .i64 a1) rfl rfl (by kernel_rfl) (by kernel_rfl) (by kernel_rfl) (fun _ _ _ h => h) (by rfl) (fun W _ => run_move_is (.tmp 1) rfl rfl W) hHeld ?_
        simp only [Act.put, List.setIfInBounds_toArray, List.set_cons_zero, List.set_cons_succ]
        refine held_take (i := 14) (d := 87) (v := .int .i64 a2) rfl rfl (by kernel_rfl) (by kernel_rfl) (by kernel_rfl) (fun _ _ _ h => h) (by rfl) (fun W _ => run_move_is (.tmp 2) rfl rfl W) hHeld ?_
        simp only [Act.put, List.setIfInBounds_toArray, List.set_cons_zero, List.set_cons_succ]
        have HCL := Lib.hid (alike14_any w7 c7 1 p m (N + 2) L6 a1 a2 HT7.out.lb HT7.out.mb.r HT7.out.wl (by omega) HO1.out)
        refine held_one (i := 15) (by kernel_rfl) ?_
        refine held_callX (d := 88) rfl rfl (by rfl) rfl (by kernel_rfl) Try.func12 (by kernel_rfl) HCL.out ?_
        rintro e w8 ⟨rfl, hb8⟩
        have HT8 := Lib.hid (HT7.out.go hb8)
        have HB8 := Lib.hid (Below.then HB7.out hb8 (Nat.le_refl _))
        clear hb8 HT7 HB7
        refine ⟨_, rfl, ?_⟩
        clear HCL hHeld
        have hHeld := trivial
        generalize rc c7 w7.heap.size 0 = c8 at *
        refine ⟨hHeld, ?_⟩
        simp only [Act.put, List.setIfInBounds_toArray, List.set_cons_zero, List.set_cons_succ]
        refine held_take (i := 16) (d := 89) (v := .bool true) rfl rfl (by kernel_rfl) (by kernel_rfl) (by kernel_rfl) (fun _ _ _ h => h) (by rfl) (fun W _ => by go_simp) hHeld ?_
        simp only [Act.put, List.setIfInBounds_toArray, List.set_cons_zero, List.set_cons_succ]
        refine held_take (i := 17) (d := 90) (v := .bool true) rfl rfl (by kernel_rfl) (by kernel_rfl) (by kernel_rfl) (fun _ _ _ h => h) (by rfl) (fun W _ => run_move_is (.tmp 89) rfl rfl W) hHeld ?_
        simp only [Act.put, List.setIfInBounds_toArray, List.set_cons_zero, List.set_cons_succ]
        refine held_take (i := 18) (d := 91) (v := .pointer (some ⟨p, 0, none⟩)) rfl rfl (by kernel_rfl) (by kernel_rfl) (by kernel_rfl) (fun _ _ _ h => h) (by rfl) (fun W _ => run_move_is (.tmp 13) rfl rfl W) hHeld ?_
        simp only [Act.put, List.setIfInBounds_toArray, List.set_cons_zero, List.set_cons_succ]
        refine held_take (i := 19) (d := 92) (v := .int .i64 a1) rfl rfl (by kernel_rfl) (by kernel_rfl) (by kernel_rfl) (fun _ _ _ h => h) (by rfl) (fun W _ => run_move_is (.tmp 1) rfl rfl W) hHeld ?_
        simp only [Act.put, List.setIfInBounds_toArray, List.set_cons_zero, List.set_cons_succ]
        refine held_take (i := 20) (d := 93) (v := .int .i64 a2) rfl rfl (by kernel_rfl) (by kernel_rfl) (by kernel_rfl) (fun _ _ _ h => h) (by rfl) (fun W _ => run_move_is (.tmp 2) rfl rfl W) hHeld ?_
        simp only [Act.put, List.setIfInBounds_toArray, List.set_cons_zero, List.set_cons_succ]
        refine held_take (i := 22) (d := 95) (v := .pointer (some ⟨m, 0, none⟩)) rfl rfl (by kernel_rfl) (by kernel_rfl) (by kernel_rfl) (fun _ _ _ h => h) (by rfl) (fun W _ => run_move_is (.tmp 14) rfl rfl W) hHeld ?_
        simp only [Act.put, List.setIfInBounds_toArray, List.set_cons_zero, List.set_cons_succ]
        refine held_take (i := 23) (d := 96) (v := .int .i64 a1) rfl rfl (by kernel_rfl) (by kernel_rfl) (by kernel_rfl) (fun _ _ _ h => h) (by rfl) (fun W _ => run_move_is (.tmp 1) rfl rfl W) hHeld ?_
        simp only [Act.put, List.setIfInBounds_toArray, List.set_cons_zero, List.set_cons_succ]
        refine held_take (i := 24) (d := 97) (v := .int .i64 a2) rfl rfl (by kernel_rfl) (by kernel_rfl) (by kernel_rfl) (fun _ _ _ h => h) (by rfl) (fun W _ => run_move_is (.tmp 2) rfl rfl W) hHeld ?_
        simp only [Act.put, List.setIfInBounds_toArray, List.set_cons_zero, List.set_cons_succ]
        have HCL := Lib.hid (release_any (o := a1) (h := a2) HT8.out.lb HT8.out.wl (by omega) HO1.out)
        refine held_one (i := 21) (by kernel_rfl) ?_
        refine held_callX (d := 94) rfl rfl (by rfl) rfl (by kernel_rfl) Try.func18 (by kernel_rfl) HCL.out ?_
        rintro e w9 ⟨rfl, hL, hk⟩
        have HL9 := Lib.hid hL
        have HK9 := Lib.hid hk
        have HM9 := Lib.hid (HT8.out.mid hk)
        clear hL hk
        refine ⟨_, rfl, ?_⟩
        clear HCL hHeld
        have hHeld := trivial
        refine ⟨hHeld, ?_⟩
        simp only [Act.put, List.setIfInBounds_toArray, List.set_cons_zero, List.set_cons_succ]
        have HCL := Lib.hid (releaseR_any (o := a1) (h := a2) HM9.out HT8.out.wl (by omega))
        refine held_one (i := 25) (by kernel_rfl) ?_
        refine held_callX (d := 98) rfl rfl (by rfl) rfl (by kernel_rfl) Try.func19 (by kernel_rfl) HCL.out ?_
        rintro e w10 ⟨rfl, hM, hk⟩
        obtain ⟨hT, hz⟩ := HT8.out.both HL9.out HK9.out hM hk (HT8.out.wl.rel)
        have HT10 := Lib.hid hT
        have HB10 := Lib.hid (HB8.out.trans (hz.below HT8.out.lo HT8.out.bd))
        clear hT hz hM hk
        refine ⟨_, rfl, ?_⟩
        clear HCL hHeld
        have hHeld := trivial
        clear HM9 HL9 HK9 HT8 HB8
        generalize rc (rc c8 w8.heap.size 1) w9.heap.size 2 = c10 at *
        obtain ⟨L10, hLL⟩ : ∃ l, relL a1 a2 L6 = l := ⟨_, rfl⟩
        rw [hLL] at HT10
        clear hLL
        refine ⟨hHeld, ?_⟩
        simp only [Act.put, List.setIfInBounds_toArray, List.set_cons_zero, List.set_cons_succ]
        refine held_take (i := 26) (d := 99) (v := .bool true) rfl rfl (by kernel_rfl) (by kernel_rfl) (by kernel_rfl) (fun _ _ _ h => h) (by rfl) (fun W _ => by go_simp) hHeld ?_
        simp only [Act.put, List.setIfInBounds_toArray, List.set_cons_zero, List.set_cons_succ]
        refine held_take (i := 27) (d := 100) (v := .bool true) rfl rfl (by kernel_rfl) (by kernel_rfl) (by kernel_rfl) (fun _ _ _ h => h) (by rfl) (fun W _ => by go_simp) hHeld ?_
        simp only [Act.put, List.setIfInBounds_toArray, List.set_cons_zero, List.set_cons_succ]
        refine held_take (i := 28) (d := 101) (v := .bool true) rfl rfl (by kernel_rfl) (by kernel_rfl) (by kernel_rfl) (fun _ _ _ h => h) (by rfl) (fun W _ => run_move_is (.tmp 100) rfl rfl W) hHeld ?_
        simp only [Act.put, List.setIfInBounds_toArray, List.set_cons_zero, List.set_cons_succ]
        refine held_take (i := 29) (d := 102) (v := .pointer (some ⟨p, 0, none⟩)) rfl rfl (by kernel_rfl) (by kernel_rfl) (by kernel_rfl) (fun _ _ _ h => h) (by rfl) (fun W _ => run_move_is (.tmp 13) rfl rfl W) hHeld ?_
        simp only [Act.put, List.setIfInBounds_toArray, List.set_cons_zero, List.set_cons_succ]
        refine held_take (i := 30) (d := 103) (v := .int .i64 a2) rfl rfl (by kernel_rfl) (by kernel_rfl) (by kernel_rfl) (fun _ _ _ h => h) (by rfl) (fun W _ => run_move_is (.tmp 2) rfl rfl W) hHeld ?_
        simp only [Act.put, List.setIfInBounds_toArray, List.set_cons_zero, List.set_cons_succ]
        refine held_take (i := 32) (d := 105) (v := .pointer (some ⟨m, 0, none⟩)) rfl rfl (by kernel_rfl) (by kernel_rfl) (by kernel_rfl) (fun _ _ _ h => h) (by rfl) (fun W _ => run_move_is (.tmp 14) rfl rfl W) hHeld ?_
        simp only [Act.put, List.setIfInBounds_toArray, List.set_cons_zero, List.set_cons_succ]
        refine held_take (i := 33) (d := 106) (v := .int .i64 a2) rfl rfl (by kernel_rfl) (by kernel_rfl) (by kernel_rfl) (fun _ _ _ h => h) (by rfl) (fun W _ => run_move_is (.tmp 2) rfl rfl W) hHeld ?_
        simp only [Act.put, List.setIfInBounds_toArray, List.set_cons_zero, List.set_cons_succ]
        have HCL := Lib.hid (endHolder_any (h := a2) HT10.out.lb HT10.out.wl (by omega))
        refine held_one (i := 31) (by kernel_rfl) ?_
        refine held_callX (d := 104) rfl rfl (by rfl) rfl (by kernel_rfl) Try.func20 (by kernel_rfl) HCL.out ?_
        rintro e w11 ⟨rfl, hL, hk⟩
        have HL11 := Lib.hid hL
        have HK11 := Lib.hid hk
        have HM11 := Lib.hid (HT10.out.mid hk)
        clear hL hk
        refine ⟨_, rfl, ?_⟩
        clear HCL hHeld
        have hHeld := trivial
        refine ⟨hHeld, ?_⟩
        simp only [Act.put, List.setIfInBounds_toArray, List.set_cons_zero, List.set_cons_succ]
        have HCL := Lib.hid (endHolderR_any (h := a2) HM11.out (by have := HT10.out.wl.len; omega))
        refine held_one (i := 34) (by kernel_rfl) ?_
        refine held_callX (d := 107) rfl rfl (by rfl) rfl (by kernel_rfl) Try.func21 (by kernel_rfl) HCL.out ?_
        rintro e w12 ⟨rfl, hM, hk⟩
        obtain ⟨hT, hz⟩ := HT10.out.both HL11.out HK11.out hM hk (HT10.out.wl.endH)
        have HT12 := Lib.hid hT
        have HB12 := Lib.hid (HB10.out.trans (hz.below HT10.out.lo HT10.out.bd))
        clear hT hz hM hk
        refine ⟨_, rfl, ?_⟩
        clear HCL hHeld
        have hHeld := trivial
        clear HM11 HL11 HK11 HT10 HB10
        generalize rc (rc c10 w10.heap.size 1) w11.heap.size 2 = c12 at *
        obtain ⟨L12, hLL⟩ : ∃ l, endH a2 L10 = l := ⟨_, rfl⟩
        rw [hLL] at HT12
        clear hLL
        refine ⟨hHeld, ?_⟩
        simp only [Act.put, List.setIfInBounds_toArray, List.set_cons_zero, List.set_cons_succ]
        refine held_take (i := 35) (d := 108) (v := .bool true) rfl rfl (by kernel_rfl) (by kernel_rfl) (by kernel_rfl) (fun _ _ _ h => h) (by rfl) (fun W _ => by go_simp) hHeld ?_
        simp only [Act.put, List.setIfInBounds_toArray, List.set_cons_zero, List.set_cons_succ]
        refine held_take (i := 36) (d := 109) (v := .bool true) rfl rfl (by kernel_rfl) (by kernel_rfl) (by kernel_rfl) (fun _ _ _ h => h) (by rfl) (fun W _ => by go_simp) hHeld ?_
        simp only [Act.put, List.setIfInBounds_toArray, List.set_cons_zero, List.set_cons_succ]
        refine held_take (i := 37) (d := 110) (v := .bool true) rfl rfl (by kernel_rfl) (by kernel_rfl) (by kernel_rfl) (fun _ _ _ h => h) (by rfl) (fun W _ => run_move_is (.tmp 109) rfl rfl W) hHeld ?_
        simp only [Act.put, List.setIfInBounds_toArray, List.set_cons_zero, List.set_cons_succ]
        refine held_take (i := 38) (d := 111) (v := .pointer (some ⟨p, 0, none⟩)) rfl rfl (by kernel_rfl) (by kernel_rfl) (by kernel_rfl) (fun _ _ _ h => h) (by rfl) (fun W _ => run_move_is (.tmp 13) rfl rfl W) hHeld ?_
        simp only [Act.put, List.setIfInBounds_toArray, List.set_cons_zero, List.set_cons_succ]
        refine held_take (i := 39) (d := 112) (v := .int .i64 a1) rfl rfl (by kernel_rfl) (by kernel_rfl) (by kernel_rfl) (fun _ _ _ h => h) (by rfl) (fun W _ => run_move_is (.tmp 1) rfl rfl W) hHeld ?_
        simp only [Act.put, List.setIfInBounds_toArray, List.set_cons_zero, List.set_cons_succ]
        refine held_take (i := 41) (d := 114) (v := .pointer (some ⟨m, 0, none⟩)) rfl rfl (by kernel_rfl) (by kernel_rfl) (by kernel_rfl) (fun _ _ _ h => h) (by rfl) (fun W _ => run_move_is (.tmp 14) rfl rfl W) hHeld ?_
        simp only [Act.put, List.setIfInBounds_toArray, List.set_cons_zero, List.set_cons_succ]
        refine held_take (i := 42) (d := 115) (v := .int .i64 a1) rfl rfl (by kernel_rfl) (by kernel_rfl) (by kernel_rfl) (fun _ _ _ h => h) (by rfl) (fun W _ => run_move_is (.tmp 1) rfl rfl W) hHeld ?_
        simp only [Act.put, List.setIfInBounds_toArray, List.set_cons_zero, List.set_cons_succ]
        have HCL := Lib.hid (endObject_any (o := a1) HT12.out.lb (by have := HT12.out.wl.len; omega) HO1.out HT12.out.wl.ri)
        refine held_one (i := 40) (by kernel_rfl) ?_
        refine held_callX (d := 113) rfl rfl (by rfl) rfl (by kernel_rfl) Try.func23 (by kernel_rfl) HCL.out ?_
        rintro e w13 ⟨v13, rfl, ho, hL, hk⟩
        obtain ⟨A13, n13, k13, rfl, _⟩ := ho.shape
        have HO13 := Lib.hid ho
        have HL13 := Lib.hid hL
        have HK13 := Lib.hid hk
        have HM13 := Lib.hid (HT12.out.mid hk)
        clear hL hk ho
        refine ⟨_, rfl, ?_⟩
        clear HCL hHeld
        have hHeld := trivial
        refine ⟨hHeld, ?_⟩
        simp only [Act.put, List.setIfInBounds_toArray, List.set_cons_zero, List.set_cons_succ]
        have HCL := Lib.hid (endObjectR_any (o := a1) HM13.out (by have := HT12.out.wl.len; omega))
        refine held_one (i := 43) (by kernel_rfl) ?_
        refine held_callX (d := 116) rfl rfl (by rfl) rfl (by kernel_rfl) Try.func24 (by kernel_rfl) HCL.out ?_
        rintro e w14 ⟨v14, rfl, ho, hM, hk⟩
        obtain ⟨A14, n14, k14, rfl, hx14⟩ := ho.shape
        obtain ⟨_, _, _, e13, hx13⟩ := (row_on HO13.out hk).shape
        cases e13
        have HS14 := Lib.hid (sameB_any A13 A14 n13 n14 k13 k14 (ofL a1 L12) w14 hx13 hx14)
        obtain ⟨hT, hz⟩ := HT12.out.both HL13.out HK13.out hM hk HT12.out.wl.endO
        have HT14 := Lib.hid hT
        have HB14 := Lib.hid (HB12.out.trans (hz.below HT12.out.lo HT12.out.bd))
        clear hT hz hM hk ho hx13 hx14
        refine ⟨_, rfl, ?_⟩
        clear HCL hHeld
        have hHeld := trivial
        clear HM13 HL13 HK13 HT12 HB12 HO13
        generalize rc (rc c12 w12.heap.size 1) w13.heap.size 2 = c14 at *
        obtain ⟨L14, hLL⟩ : ∃ l, endO a1 L12 = l := ⟨_, rfl⟩
        rw [hLL] at HT14
        clear hLL
        refine ⟨hHeld, ?_⟩
        simp only [Act.put, List.setIfInBounds_toArray, List.set_cons_zero, List.set_cons_succ]
        have HCL := Lib.hid (HS14.out)
        refine held_one (i := 44) (by kernel_rfl) ?_
        refine held_callX (d := 117) rfl rfl (by rfl) rfl (by kernel_rfl) Try.func22 (by kernel_rfl) HCL.out ?_
        rintro e w15 ⟨rfl, hb15⟩
        have HT15 := Lib.hid (HT14.out.go hb15)
        have HB15 := Lib.hid (Below.then HB14.out hb15 (Nat.le_refl _))
        clear hb15 HT14 HB14 HS14
        refine ⟨_, rfl, ?_⟩
        clear HCL hHeld
        have hHeld := trivial
        generalize rc c14 w14.heap.size 0 = c15 at *
        refine ⟨hHeld, ?_⟩
        simp only [Act.put, List.setIfInBounds_toArray, List.set_cons_zero, List.set_cons_succ]
        refine held_take (i := 45) (d := 118) (v := .bool true) rfl rfl (by kernel_rfl) (by kernel_rfl) (by kernel_rfl) (fun _ _ _ h => h) (by rfl) (fun W _ => by go_simp) hHeld ?_
        simp only [Act.put, List.setIfInBounds_toArray, List.set_cons_zero, List.set_cons_succ]
        refine held_take (i := 46) (d := 119) (v := .bool true) rfl rfl (by kernel_rfl) (by kernel_rfl) (by kernel_rfl) (fun _ _ _ h => h) (by rfl) (fun W _ => run_move_is (.tmp 118) rfl rfl W) hHeld ?_
        simp only [Act.put, List.setIfInBounds_toArray, List.set_cons_zero, List.set_cons_succ]
        refine held_take (i := 47) (d := 120) (v := .pointer (some ⟨p, 0, none⟩)) rfl rfl (by kernel_rfl) (by kernel_rfl) (by kernel_rfl) (fun _ _ _ h => h) (by rfl) (fun W _ => run_move_is (.tmp 13) rfl rfl W) hHeld ?_
        simp only [Act.put, List.setIfInBounds_toArray, List.set_cons_zero, List.set_cons_succ]
        refine held_take (i := 49) (d := 122) (v := .pointer (some ⟨m, 0, none⟩)) rfl rfl (by kernel_rfl) (by kernel_rfl) (by kernel_rfl) (fun _ _ _ h => h) (by rfl) (fun W _ => run_move_is (.tmp 14) rfl rfl W) hHeld ?_
        simp only [Act.put, List.setIfInBounds_toArray, List.set_cons_zero, List.set_cons_succ]
        refine held_take (i := 50) (d := 123) (v := .pointer (some ⟨m, 0, none⟩)) rfl rfl (by kernel_rfl) (by kernel_rfl) (by kernel_rfl) (fun _ _ _ h => h) (by rfl) (fun W _ => by go_simp) hHeld ?_
        simp only [Act.put, List.setIfInBounds_toArray, List.set_cons_zero, List.set_cons_succ]
        refine held_take (i := 51) (d := 124) (v := .pointer (some ⟨m, 0, none⟩)) rfl rfl (by kernel_rfl) (by kernel_rfl) (by kernel_rfl) (fun _ _ _ h => h) (by rfl) (fun W _ => by go_simp) hHeld ?_
        simp only [Act.put, List.setIfInBounds_toArray, List.set_cons_zero, List.set_cons_succ]
        obtain ⟨A0, n0, cap0, k0, hk0⟩ := HT15.out.mb.r
        have HK0 := Lib.hid hk0
        have HLI := Lib.hid (listedL_any (some ⟨p, 0, none⟩) L14 w15 (by have := HT15.out.wl.len; omega) (fun W hb => all_any (HT15.out.lb.go hb).toq HT15.out.wl.srt HT15.out.wl.ri (by have := HT15.out.wl.len; omega)))
        clear hk0 hHeld
        refine held_two (i := 48) (j := 52) (by kernel_rfl) ?_ ?_
        · refine held_callX (d := 121) rfl rfl (by rfl) rfl (by kernel_rfl) Try.func25 (by kernel_rfl) HLI.out ?_
          rintro e w16 ⟨v16, rfl, ho16, hb16⟩
          obtain ⟨A16, n16, k16, rfl, hx16⟩ := ho16.shape
          have HX16 := Lib.hid hx16
          have HB16 := Lib.hid hb16
          have k1 := (hb16.cell (p := ⟨m, 0, none⟩) (lt_of_some k0)).trans k0
          refine ⟨_, rfl, ?_⟩
          clear ho16 hx16 hb16 HLI k0
          refine ⟨trivial, ?_⟩
          simp only [Act.put, List.setIfInBounds_toArray, List.set_cons_zero, List.set_cons_succ]
          refine held_one (i := 52) (by kernel_rfl) ?_
          refine held_make (d := 125) (v := .slice A0 n0 cap0) (w' := w16) rfl rfl (by rfl) (by go_simp) ?_
          refine ⟨trivial, ?_⟩
          simp only [Act.put, List.setIfInBounds_toArray, List.set_cons_zero, List.set_cons_succ]
          have hHeld : True := trivial
          have HCL := Lib.hid (sameB_any A16 A0 n16 n0 k16 cap0 L14 w16 HX16.out (HK0.out.go HB16.out))
          refine held_one (i := 53) (by kernel_rfl) ?_
          refine held_callX (d := 126) rfl rfl (by rfl) rfl (by kernel_rfl) Try.func22 (by kernel_rfl) HCL.out ?_
          rintro e w17 ⟨rfl, hb17⟩
          have HB17 := Lib.hid (Below.then (Below.then HB15.out HB16.out (Nat.le_refl _)) hb17 (Nat.le_refl _))
          clear hb17
          refine ⟨_, rfl, ?_⟩
          clear HCL hHeld
          have hHeld := trivial
          refine ⟨hHeld, ?_⟩
          simp only [Act.put, List.setIfInBounds_toArray, List.set_cons_zero, List.set_cons_succ]
          refine held_take (i := 54) (d := 127) (v := .bool true) rfl rfl (by kernel_rfl) (by kernel_rfl) (by kernel_rfl) (fun _ _ _ h => h) (by rfl) (fun W _ => by go_simp) hHeld ?_
          simp only [Act.put, List.setIfInBounds_toArray, List.set_cons_zero, List.set_cons_succ]
          refine held_take (i := 55) (d := 12) (v := .bool true) rfl rfl (by kernel_rfl) (by kernel_rfl) (by kernel_rfl) (fun _ _ _ h => h) (by rfl) (fun W _ => by go_simp) hHeld ?_
          simp only [Act.put, List.setIfInBounds_toArray, List.set_cons_zero, List.set_cons_succ]
          refine wpAnyH_done (by kernel_rfl) ?_ _
          clear hHeld
          clear HX16 HK0 HB16 HB15 HT15
          go_wp2
          go_ret
          exact ⟨rfl, HB17.out⟩
        · refine held_make (d := 125) (v := .slice A0 n0 cap0) (w' := w15) rfl rfl (by rfl) (by go_simp) ?_
          refine ⟨trivial, ?_⟩
          simp only [Act.put, List.setIfInBounds_toArray, List.set_cons_zero, List.set_cons_succ]
          refine held_one (i := 48) (by kernel_rfl) ?_
          refine held_callX (d := 121) rfl rfl (by rfl) rfl (by kernel_rfl) Try.func25 (by kernel_rfl) HLI.out ?_
          rintro e w16 ⟨v16, rfl, ho16, hb16⟩
          obtain ⟨A16, n16, k16, rfl, hx16⟩ := ho16.shape
          have HX16 := Lib.hid hx16
          have HB16 := Lib.hid hb16
          refine ⟨_, rfl, ?_⟩
          clear ho16 hx16 hb16 HLI k0
          refine ⟨trivial, ?_⟩
          simp only [Act.put, List.setIfInBounds_toArray, List.set_cons_zero, List.set_cons_succ]
          have hHeld : True := trivial
          have HCL := Lib.hid (sameB_any A16 A0 n16 n0 k16 cap0 L14 w16 HX16.out (HK0.out.go HB16.out))
          refine held_one (i := 53) (by kernel_rfl) ?_
          refine held_callX (d := 126) rfl rfl (by rfl) rfl (by kernel_rfl) Try.func22 (by kernel_rfl) HCL.out ?_
          rintro e w17 ⟨rfl, hb17⟩
          have HB17 := Lib.hid (Below.then (Below.then HB15.out HB16.out (Nat.le_refl _)) hb17 (Nat.le_refl _))
          clear hb17
          refine ⟨_, rfl, ?_⟩
          clear HCL hHeld
          have hHeld := trivial
          refine ⟨hHeld, ?_⟩
          simp only [Act.put, List.setIfInBounds_toArray, List.set_cons_zero, List.set_cons_succ]
          refine held_take (i := 54) (d := 127) (v := .bool true) rfl rfl (by kernel_rfl) (by kernel_rfl) (by kernel_rfl) (fun _ _ _ h => h) (by rfl) (fun W _ => by go_simp) hHeld ?_
          simp only [Act.put, List.setIfInBounds_toArray, List.set_cons_zero, List.set_cons_succ]
          refine held_take (i := 55) (d := 12) (v := .bool true) rfl rfl (by kernel_rfl) (by kernel_rfl) (by kernel_rfl) (fun _ _ _ h => h) (by rfl) (fun W _ => by go_simp) hHeld ?_
          simp only [Act.put, List.setIfInBounds_toArray, List.set_cons_zero, List.set_cons_succ]
          refine wpAnyH_done (by kernel_rfl) ?_ _
          clear hHeld
          clear HX16 HK0 HB16 HB15 HT15
          go_wp2
          go_ret
          exact ⟨rfl, HB17.out⟩
      · have hi1 : (i : Int) < (len0 : Int) := by omega
        have hi2 : ¬ (i : Int) < 16 := by omega
        have HB := Lib.hid hh.out.1
        obtain ⟨_, cf, L, hT⟩ := hh.out
        obtain ⟨N, hNi⟩ : ∃ N, i = N := ⟨_, rfl⟩
        rw [hNi] at hT
        have hN16 : N ≤ 16 := by omega
        have HT := Lib.hid hT
        have HA := Lib.hid (access_any (p := a2) a5 a4 hT.lb.toq HO1.out hT.wl.srt (by have := hT.wl.len; omega))
        clear hh hT hNi
        go_wp2_with fail
        refine HA.out.mono ?_
        rintro e wx ⟨rfl, hb⟩
        have HT1 := Lib.hid (HT.out.go hb)
        have HB1 := Lib.hid (Below.then HB.out hb (Nat.le_refl _))
        have HA2 := Lib.hid (accR_any (o := a1) (pl := a2) a5 a4 HT1.out.mb.r HT1.out.wl (by omega))
        clear HA HT HB hb
        go_wp2_with fail
        refine HA2.out.mono ?_
        rintro e w2 ⟨rfl, hb⟩
        have HT2 := Lib.hid (HT1.out.go hb)
        have HB2 := Lib.hid (Below.then HB1.out hb (Nat.le_refl _))
        clear HA2 HT1 HB1 hb
        generalize rc (rc cf wr.heap.size 0) wx.heap.size 0 = c2 at *
        obtain ⟨L2, hLL⟩ : ∃ l, L = l := ⟨_, rfl⟩
        rw [hLL] at HT2
        clear hLL
        have HI := Lib.hid (lend_any (o := a1) (h := a2) (m := a3) HT2.out.lb HT2.out.wl (by omega) HO1.out)
        go_wp2_with fail
        refine HI.out.mono ?_
        rintro e w3 ⟨rfl, hL, hk⟩
        have HL3 := Lib.hid hL
        have HK3 := Lib.hid hk
        have HJ := Lib.hid (lendR_any (o := a1) (h := a2) (m := a3) (HT2.out.mid hk) HT2.out.wl (by omega))
        clear HI hL hk
        go_wp2_with fail
        refine HJ.out.mono ?_
        rintro e w4 ⟨rfl, hM, hk⟩
        obtain ⟨hT, hz⟩ := HT2.out.both HL3.out HK3.out hM hk (HT2.out.wl.lend HO1.out)
        have HT4 := Lib.hid hT
        have HB4 := Lib.hid (HB2.out.trans (hz.below HT2.out.lo HT2.out.bd))
        clear hT hz hM hk HJ HL3 HK3 HT2 HB2
        generalize rc (rc c2 w2.heap.size 1) w3.heap.size 2 = c4 at *
        obtain ⟨L4, hLL⟩ : ∃ l, lendL a1 a2 a3 L2 = l := ⟨_, rfl⟩
        rw [hLL] at HT4
        clear hLL
        have HI := Lib.hid (lend_any (o := a1) (h := a2) (m := 1) HT4.out.lb HT4.out.wl (by omega) HO1.out)
        go_wp2_with fail
        refine HI.out.mono ?_
        rintro e w5 ⟨rfl, hL, hk⟩
        have HL5 := Lib.hid hL
        have HK5 := Lib.hid hk
        have HJ := Lib.hid (lendR_any (o := a1) (h := a2) (m := 1) (HT4.out.mid hk) HT4.out.wl (by omega))
        clear HI hL hk
        go_wp2_with fail
        refine HJ.out.mono ?_
        rintro e w6 ⟨rfl, hM, hk⟩
        obtain ⟨hT, hz⟩ := HT4.out.both HL5.out HK5.out hM hk (HT4.out.wl.lend HO1.out)
        have HT6 := Lib.hid hT
        have HB6 := Lib.hid (HB4.out.trans (hz.below HT4.out.lo HT4.out.bd))
        clear hT hz hM hk HJ HL5 HK5 HT4 HB4
        generalize rc (rc c4 w4.heap.size 1) w5.heap.size 2 = c6 at *
        obtain ⟨L6, hLL⟩ : ∃ l, lendL a1 a2 1 L4 = l := ⟨_, rfl⟩
        rw [hLL] at HT6
        clear hLL
        go_wp2_with fail
        have hd : Below w6.heap.size w6 w6.drew := below_drewN (Below.refl _ _) 1
        have HTD := Lib.hid (HT6.out.go hd)
        have HBD := Lib.hid (Below.then HB6.out hd (Nat.le_refl _))
        clear HT6 HB6 hd
        have HT6 := HTD
        have HB6 := HBD
        clear HTD HBD
        refine wp_region_hand 56 (fun _ => True) (by kernel_rfl) (by kernel_rfl) ?_
        rw [show Array.replicate 56 false = #[false, false, false, false, false, false, false, false, false, false, false, false, false, false, false, false, false, false, false, false, false, false, false, false, false, false, false, false, false, false, false, false, false, false, false, false, false, false, false, false, false, false, false, false, false, false, false, false, false, false, false, false, false, false, false, false] from rfl]
        have hHeld := trivial
        generalize rc c6 w6.heap.size 0 = cd at *
        generalize w6.drew = wd at *
        have HCL := Lib.hid (awake14_any wd)
        refine held_one (i := 0) (by kernel_rfl) ?_
        refine held_callX (d := 73) rfl rfl (by rfl) rfl (by kernel_rfl) Try.func13 (by kernel_rfl) HCL.out ?_
        rintro e w7 ⟨rfl, hb7⟩
        have HT7 := Lib.hid (HT6.out.go hb7)
        have HB7 := Lib.hid (Below.then HB6.out hb7 (Nat.le_refl _))
        clear hb7 HT6 HB6
        refine ⟨_, rfl, ?_⟩
        clear HCL hHeld
        have hHeld := trivial
        generalize rc cd wd.heap.size 0 = c7 at *
        refine ⟨hHeld, ?_⟩
        simp only [Act.put, List.setIfInBounds_toArray, List.set_cons_zero, List.set_cons_succ]
        refine held_take (i := 1) (d := 74) (v := .bool true) rfl rfl (by kernel_rfl) (by kernel_rfl) (by kernel_rfl) (fun _ _ _ h => h) (by rfl) (fun W _ => run_move_is (.tmp 73) rfl rfl W) hHeld ?_
        simp only [Act.put, List.setIfInBounds_toArray, List.set_cons_zero, List.set_cons_succ]
        refine held_take (i := 2) (d := 75) (v := .bool true) rfl rfl (by kernel_rfl) (by kernel_rfl) (by kernel_rfl) (fun _ _ _ h => h) (by rfl) (fun W _ => run_move_is (.tmp 16) rfl rfl W) hHeld ?_
        simp only [Act.put, List.setIfInBounds_toArray, List.set_cons_zero, List.set_cons_succ]
        refine held_take (i := 3) (d := 76) (v := .bool true) rfl rfl (by kernel_rfl) (by kernel_rfl) (by kernel_rfl) (fun _ _ _ h => h) (by rfl) (fun W _ => by go_simp) hHeld ?_
        simp only [Act.put, List.setIfInBounds_toArray, List.set_cons_zero, List.set_cons_succ]
        refine held_take (i := 4) (d := 77) (v := .bool true) rfl rfl (by kernel_rfl) (by kernel_rfl) (by kernel_rfl) (fun _ _ _ h => h) (by rfl) (fun W _ => run_move_is (.tmp 76) rfl rfl W) hHeld ?_
        simp only [Act.put, List.setIfInBounds_toArray, List.set_cons_zero, List.set_cons_succ]
        refine held_take (i := 5) (d := 78) (v := .bool true) rfl rfl (by kernel_rfl) (by kernel_rfl) (by kernel_rfl) (fun _ _ _ h => h) (by rfl) (fun W _ => run_move_is (.tmp 17) rfl rfl W) hHeld ?_
        simp only [Act.put, List.setIfInBounds_toArray, List.set_cons_zero, List.set_cons_succ]
        refine held_take (i := 6) (d := 79) (v := .bool true) rfl rfl (by kernel_rfl) (by kernel_rfl) (by kernel_rfl) (fun _ _ _ h => h) (by rfl) (fun W _ => by go_simp) hHeld ?_
        simp only [Act.put, List.setIfInBounds_toArray, List.set_cons_zero, List.set_cons_succ]
        refine held_take (i := 7) (d := 80) (v := .bool true) rfl rfl (by kernel_rfl) (by kernel_rfl) (by kernel_rfl) (fun _ _ _ h => h) (by rfl) (fun W _ => run_move_is (.tmp 79) rfl rfl W) hHeld ?_
        simp only [Act.put, List.setIfInBounds_toArray, List.set_cons_zero, List.set_cons_succ]
        refine held_take (i := 8) (d := 81) (v := .bool true) rfl rfl (by kernel_rfl) (by kernel_rfl) (by kernel_rfl) (fun _ _ _ h => h) (by rfl) (fun W _ => run_move_is (.tmp 18) rfl rfl W) hHeld ?_
        simp only [Act.put, List.setIfInBounds_toArray, List.set_cons_zero, List.set_cons_succ]
        refine held_take (i := 9) (d := 82) (v := .bool true) rfl rfl (by kernel_rfl) (by kernel_rfl) (by kernel_rfl) (fun _ _ _ h => h) (by rfl) (fun W _ => by go_simp) hHeld ?_
        simp only [Act.put, List.setIfInBounds_toArray, List.set_cons_zero, List.set_cons_succ]
        refine held_take (i := 10) (d := 83) (v := .bool true) rfl rfl (by kernel_rfl) (by kernel_rfl) (by kernel_rfl) (fun _ _ _ h => h) (by rfl) (fun W _ => run_move_is (.tmp 82) rfl rfl W) hHeld ?_
        simp only [Act.put, List.setIfInBounds_toArray, List.set_cons_zero, List.set_cons_succ]
        refine held_take (i := 11) (d := 84) (v := .pointer (some ⟨p, 0, none⟩)) rfl rfl (by kernel_rfl) (by kernel_rfl) (by kernel_rfl) (fun _ _ _ h => h) (by rfl) (fun W _ => run_move_is (.tmp 13) rfl rfl W) hHeld ?_
        simp only [Act.put, List.setIfInBounds_toArray, List.set_cons_zero, List.set_cons_succ]
        refine held_take (i := 12) (d := 85) (v := .pointer (some ⟨m, 0, none⟩)) rfl rfl (by kernel_rfl) (by kernel_rfl) (by kernel_rfl) (fun _ _ _ h => h) (by rfl) (fun W _ => run_move_is (.tmp 14) rfl rfl W) hHeld ?_
        simp only [Act.put, List.setIfInBounds_toArray, List.set_cons_zero, List.set_cons_succ]
        refine held_take (i := 13) (d := 86) (v := .int .i64 a1) rfl rfl (by kernel_rfl) (by kernel_rfl) (by kernel_rfl) (fun _ _ _ h => h) (by rfl) (fun W _ => run_move_is (.tmp 1) rfl rfl W) hHeld ?_
        simp only [Act.put, List.setIfInBounds_toArray, List.set_cons_zero, List.set_cons_succ]
        refine held_take (i := 14) (d := 87) (v := .int .i64 a2) rfl rfl (by kernel_rfl) (by kernel_rfl) (by kernel_rfl) (fun _ _ _ h => h) (by rfl) (fun W _ => run_move_is (.tmp 2) rfl rfl W) hHeld ?_
        simp only [Act.put, List.setIfInBounds_toArray, List.set_cons_zero, List.set_cons_succ]
        have HCL := Lib.hid (alike14_any w7 c7 1 p m (N + 2) L6 a1 a2 HT7.out.lb HT7.out.mb.r HT7.out.wl (by omega) HO1.out)
        refine held_one (i := 15) (by kernel_rfl) ?_
        refine held_callX (d := 88) rfl rfl (by rfl) rfl (by kernel_rfl) Try.func12 (by kernel_rfl) HCL.out ?_
        rintro e w8 ⟨rfl, hb8⟩
        have HT8 := Lib.hid (HT7.out.go hb8)
        have HB8 := Lib.hid (Below.then HB7.out hb8 (Nat.le_refl _))
        clear hb8 HT7 HB7
        refine ⟨_, rfl, ?_⟩
        clear HCL hHeld
        have hHeld := trivial
        generalize rc c7 w7.heap.size 0 = c8 at *
        refine ⟨hHeld, ?_⟩
        simp only [Act.put, List.setIfInBounds_toArray, List.set_cons_zero, List.set_cons_succ]
        refine held_take (i := 16) (d := 89) (v := .bool true) rfl rfl (by kernel_rfl) (by kernel_rfl) (by kernel_rfl) (fun _ _ _ h => h) (by rfl) (fun W _ => by go_simp) hHeld ?_
        simp only [Act.put, List.setIfInBounds_toArray, List.set_cons_zero, List.set_cons_succ]
        refine held_take (i := 17) (d := 90) (v := .bool true) rfl rfl (by kernel_rfl) (by kernel_rfl) (by kernel_rfl) (fun _ _ _ h => h) (by rfl) (fun W _ => run_move_is (.tmp 89) rfl rfl W) hHeld ?_
        simp only [Act.put, List.setIfInBounds_toArray, List.set_cons_zero, List.set_cons_succ]
        refine held_take (i := 18) (d := 91) (v := .pointer (some ⟨p, 0, none⟩)) rfl rfl (by kernel_rfl) (by kernel_rfl) (by kernel_rfl) (fun _ _ _ h => h) (by rfl) (fun W _ => run_move_is (.tmp 13) rfl rfl W) hHeld ?_
        simp only [Act.put, List.setIfInBounds_toArray, List.set_cons_zero, List.set_cons_succ]
        refine held_take (i := 19) (d := 92) (v := .int .i64 a1) rfl rfl (by kernel_rfl) (by kernel_rfl) (by kernel_rfl) (fun _ _ _ h => h) (by rfl) (fun W _ => run_move_is (.tmp 1) rfl rfl W) hHeld ?_
        simp only [Act.put, List.setIfInBounds_toArray, List.set_cons_zero, List.set_cons_succ]
        refine held_take (i := 20) (d := 93) (v := .int .i64 a2) rfl rfl (by kernel_rfl) (by kernel_rfl) (by kernel_rfl) (fun _ _ _ h => h) (by rfl) (fun W _ => run_move_is (.tmp 2) rfl rfl W) hHeld ?_
        simp only [Act.put, List.setIfInBounds_toArray, List.set_cons_zero, List.set_cons_succ]
        refine held_take (i := 22) (d := 95) (v := .pointer (some ⟨m, 0, none⟩)) rfl rfl (by kernel_rfl) (by kernel_rfl) (by kernel_rfl) (fun _ _ _ h => h) (by rfl) (fun W _ => run_move_is (.tmp 14) rfl rfl W) hHeld ?_
        simp only [Act.put, List.setIfInBounds_toArray, List.set_cons_zero, List.set_cons_succ]
        refine held_take (i := 23) (d := 96) (v := .int .i64 a1) rfl rfl (by kernel_rfl) (by kernel_rfl) (by kernel_rfl) (fun _ _ _ h => h) (by rfl) (fun W _ => run_move_is (.tmp 1) rfl rfl W) hHeld ?_
        simp only [Act.put, List.setIfInBounds_toArray, List.set_cons_zero, List.set_cons_succ]
        refine held_take (i := 24) (d := 97) (v := .int .i64 a2) rfl rfl (by kernel_rfl) (by kernel_rfl) (by kernel_rfl) (fun _ _ _ h => h) (by rfl) (fun W _ => run_move_is (.tmp 2) rfl rfl W) hHeld ?_
        simp only [Act.put, List.setIfInBounds_toArray, List.set_cons_zero, List.set_cons_succ]
        have HCL := Lib.hid (release_any (o := a1) (h := a2) HT8.out.lb HT8.out.wl (by omega) HO1.out)
        refine held_one (i := 21) (by kernel_rfl) ?_
        refine held_callX (d := 94) rfl rfl (by rfl) rfl (by kernel_rfl) Try.func18 (by kernel_rfl) HCL.out ?_
        rintro e w9 ⟨rfl, hL, hk⟩
        have HL9 := Lib.hid hL
        have HK9 := Lib.hid hk
        have HM9 := Lib.hid (HT8.out.mid hk)
        clear hL hk
        refine ⟨_, rfl, ?_⟩
        clear HCL hHeld
        have hHeld := trivial
        refine ⟨hHeld, ?_⟩
        simp only [Act.put, List.setIfInBounds_toArray, List.set_cons_zero, List.set_cons_succ]
        have HCL := Lib.hid (releaseR_any (o := a1) (h := a2) HM9.out HT8.out.wl (by omega))
        refine held_one (i := 25) (by kernel_rfl) ?_
        refine held_callX (d := 98) rfl rfl (by rfl) rfl (by kernel_rfl) Try.func19 (by kernel_rfl) HCL.out ?_
        rintro e w10 ⟨rfl, hM, hk⟩
        obtain ⟨hT, hz⟩ := HT8.out.both HL9.out HK9.out hM hk (HT8.out.wl.rel)
        have HT10 := Lib.hid hT
        have HB10 := Lib.hid (HB8.out.trans (hz.below HT8.out.lo HT8.out.bd))
        clear hT hz hM hk
        refine ⟨_, rfl, ?_⟩
        clear HCL hHeld
        have hHeld := trivial
        clear HM9 HL9 HK9 HT8 HB8
        generalize rc (rc c8 w8.heap.size 1) w9.heap.size 2 = c10 at *
        obtain ⟨L10, hLL⟩ : ∃ l, relL a1 a2 L6 = l := ⟨_, rfl⟩
        rw [hLL] at HT10
        clear hLL
        refine ⟨hHeld, ?_⟩
        simp only [Act.put, List.setIfInBounds_toArray, List.set_cons_zero, List.set_cons_succ]
        refine held_take (i := 26) (d := 99) (v := .bool true) rfl rfl (by kernel_rfl) (by kernel_rfl) (by kernel_rfl) (fun _ _ _ h => h) (by rfl) (fun W _ => by go_simp) hHeld ?_
        simp only [Act.put, List.setIfInBounds_toArray, List.set_cons_zero, List.set_cons_succ]
        refine held_take (i := 27) (d := 100) (v := .bool true) rfl rfl (by kernel_rfl) (by kernel_rfl) (by kernel_rfl) (fun _ _ _ h => h) (by rfl) (fun W _ => by go_simp) hHeld ?_
        simp only [Act.put, List.setIfInBounds_toArray, List.set_cons_zero, List.set_cons_succ]
        refine held_take (i := 28) (d := 101) (v := .bool true) rfl rfl (by kernel_rfl) (by kernel_rfl) (by kernel_rfl) (fun _ _ _ h => h) (by rfl) (fun W _ => run_move_is (.tmp 100) rfl rfl W) hHeld ?_
        simp only [Act.put, List.setIfInBounds_toArray, List.set_cons_zero, List.set_cons_succ]
        refine held_take (i := 29) (d := 102) (v := .pointer (some ⟨p, 0, none⟩)) rfl rfl (by kernel_rfl) (by kernel_rfl) (by kernel_rfl) (fun _ _ _ h => h) (by rfl) (fun W _ => run_move_is (.tmp 13) rfl rfl W) hHeld ?_
        simp only [Act.put, List.setIfInBounds_toArray, List.set_cons_zero, List.set_cons_succ]
        refine held_take (i := 30) (d := 103) (v := .int .i64 a2) rfl rfl (by kernel_rfl) (by kernel_rfl) (by kernel_rfl) (fun _ _ _ h => h) (by rfl) (fun W _ => run_move_is (.tmp 2) rfl rfl W) hHeld ?_
        simp only [Act.put, List.setIfInBounds_toArray, List.set_cons_zero, List.set_cons_succ]
        refine held_take (i := 32) (d := 105) (v := .pointer (some ⟨m, 0, none⟩)) rfl rfl (by kernel_rfl) (by kernel_rfl) (by kernel_rfl) (fun _ _ _ h => h) (by rfl) (fun W _ => run_move_is (.tmp 14) rfl rfl W) hHeld ?_
        simp only [Act.put, List.setIfInBounds_toArray, List.set_cons_zero, List.set_cons_succ]
        refine held_take (i := 33) (d := 106) (v := .int .i64 a2) rfl rfl (by kernel_rfl) (by kernel_rfl) (by kernel_rfl) (fun _ _ _ h => h) (by rfl) (fun W _ => run_move_is (.tmp 2) rfl rfl W) hHeld ?_
        simp only [Act.put, List.setIfInBounds_toArray, List.set_cons_zero, List.set_cons_succ]
        have HCL := Lib.hid (endHolder_any (h := a2) HT10.out.lb HT10.out.wl (by omega))
        refine held_one (i := 31) (by kernel_rfl) ?_
        refine held_callX (d := 104) rfl rfl (by rfl) rfl (by kernel_rfl) Try.func20 (by kernel_rfl) HCL.out ?_
        rintro e w11 ⟨rfl, hL, hk⟩
        have HL11 := Lib.hid hL
        have HK11 := Lib.hid hk
        have HM11 := Lib.hid (HT10.out.mid hk)
        clear hL hk
        refine ⟨_, rfl, ?_⟩
        clear HCL hHeld
        have hHeld := trivial
        refine ⟨hHeld, ?_⟩
        simp only [Act.put, List.setIfInBounds_toArray, List.set_cons_zero, List.set_cons_succ]
        have HCL := Lib.hid (endHolderR_any (h := a2) HM11.out (by have := HT10.out.wl.len; omega))
        refine held_one (i := 34) (by kernel_rfl) ?_
        refine held_callX (d := 107) rfl rfl (by rfl) rfl (by kernel_rfl) Try.func21 (by kernel_rfl) HCL.out ?_
        rintro e w12 ⟨rfl, hM, hk⟩
        obtain ⟨hT, hz⟩ := HT10.out.both HL11.out HK11.out hM hk (HT10.out.wl.endH)
        have HT12 := Lib.hid hT
        have HB12 := Lib.hid (HB10.out.trans (hz.below HT10.out.lo HT10.out.bd))
        clear hT hz hM hk
        refine ⟨_, rfl, ?_⟩
        clear HCL hHeld
        have hHeld := trivial
        clear HM11 HL11 HK11 HT10 HB10
        generalize rc (rc c10 w10.heap.size 1) w11.heap.size 2 = c12 at *
        obtain ⟨L12, hLL⟩ : ∃ l, endH a2 L10 = l := ⟨_, rfl⟩
        rw [hLL] at HT12
        clear hLL
        refine ⟨hHeld, ?_⟩
        simp only [Act.put, List.setIfInBounds_toArray, List.set_cons_zero, List.set_cons_succ]
        refine held_take (i := 35) (d := 108) (v := .bool true) rfl rfl (by kernel_rfl) (by kernel_rfl) (by kernel_rfl) (fun _ _ _ h => h) (by rfl) (fun W _ => by go_simp) hHeld ?_
        simp only [Act.put, List.setIfInBounds_toArray, List.set_cons_zero, List.set_cons_succ]
        refine held_take (i := 36) (d := 109) (v := .bool true) rfl rfl (by kernel_rfl) (by kernel_rfl) (by kernel_rfl) (fun _ _ _ h => h) (by rfl) (fun W _ => by go_simp) hHeld ?_
        simp only [Act.put, List.setIfInBounds_toArray, List.set_cons_zero, List.set_cons_succ]
        refine held_take (i := 37) (d := 110) (v := .bool true) rfl rfl (by kernel_rfl) (by kernel_rfl) (by kernel_rfl) (fun _ _ _ h => h) (by rfl) (fun W _ => run_move_is (.tmp 109) rfl rfl W) hHeld ?_
        simp only [Act.put, List.setIfInBounds_toArray, List.set_cons_zero, List.set_cons_succ]
        refine held_take (i := 38) (d := 111) (v := .pointer (some ⟨p, 0, none⟩)) rfl rfl (by kernel_rfl) (by kernel_rfl) (by kernel_rfl) (fun _ _ _ h => h) (by rfl) (fun W _ => run_move_is (.tmp 13) rfl rfl W) hHeld ?_
        simp only [Act.put, List.setIfInBounds_toArray, List.set_cons_zero, List.set_cons_succ]
        refine held_take (i := 39) (d := 112) (v := .int .i64 a1) rfl rfl (by kernel_rfl) (by kernel_rfl) (by kernel_rfl) (fun _ _ _ h => h) (by rfl) (fun W _ => run_move_is (.tmp 1) rfl rfl W) hHeld ?_
        simp only [Act.put, List.setIfInBounds_toArray, List.set_cons_zero, List.set_cons_succ]
        refine held_take (i := 41) (d := 114) (v := .pointer (some ⟨m, 0, none⟩)) rfl rfl (by kernel_rfl) (by kernel_rfl) (by kernel_rfl) (fun _ _ _ h => h) (by rfl) (fun W _ => run_move_is (.tmp 14) rfl rfl W) hHeld ?_
        simp only [Act.put, List.setIfInBounds_toArray, List.set_cons_zero, List.set_cons_succ]
        refine held_take (i := 42) (d := 115) (v := .int .i64 a1) rfl rfl (by kernel_rfl) (by kernel_rfl) (by kernel_rfl) (fun _ _ _ h => h) (by rfl) (fun W _ => run_move_is (.tmp 1) rfl rfl W) hHeld ?_
        simp only [Act.put, List.setIfInBounds_toArray, List.set_cons_zero, List.set_cons_succ]
        have HCL := Lib.hid (endObject_any (o := a1) HT12.out.lb (by have := HT12.out.wl.len; omega) HO1.out HT12.out.wl.ri)
        refine held_one (i := 40) (by kernel_rfl) ?_
        refine held_callX (d := 113) rfl rfl (by rfl) rfl (by kernel_rfl) Try.func23 (by kernel_rfl) HCL.out ?_
        rintro e w13 ⟨v13, rfl, ho, hL, hk⟩
        obtain ⟨A13, n13, k13, rfl, _⟩ := ho.shape
        have HO13 := Lib.hid ho
        have HL13 := Lib.hid hL
        have HK13 := Lib.hid hk
        have HM13 := Lib.hid (HT12.out.mid hk)
        clear hL hk ho
        refine ⟨_, rfl, ?_⟩
        clear HCL hHeld
        have hHeld := trivial
        refine ⟨hHeld, ?_⟩
        simp only [Act.put, List.setIfInBounds_toArray, List.set_cons_zero, List.set_cons_succ]
        have HCL := Lib.hid (endObjectR_any (o := a1) HM13.out (by have := HT12.out.wl.len; omega))
        refine held_one (i := 43) (by kernel_rfl) ?_
        refine held_callX (d := 116) rfl rfl (by rfl) rfl (by kernel_rfl) Try.func24 (by kernel_rfl) HCL.out ?_
        rintro e w14 ⟨v14, rfl, ho, hM, hk⟩
        obtain ⟨A14, n14, k14, rfl, hx14⟩ := ho.shape
        obtain ⟨_, _, _, e13, hx13⟩ := (row_on HO13.out hk).shape
        cases e13
        have HS14 := Lib.hid (sameB_any A13 A14 n13 n14 k13 k14 (ofL a1 L12) w14 hx13 hx14)
        obtain ⟨hT, hz⟩ := HT12.out.both HL13.out HK13.out hM hk HT12.out.wl.endO
        have HT14 := Lib.hid hT
        have HB14 := Lib.hid (HB12.out.trans (hz.below HT12.out.lo HT12.out.bd))
        clear hT hz hM hk ho hx13 hx14
        refine ⟨_, rfl, ?_⟩
        clear HCL hHeld
        have hHeld := trivial
        clear HM13 HL13 HK13 HT12 HB12 HO13
        generalize rc (rc c12 w12.heap.size 1) w13.heap.size 2 = c14 at *
        obtain ⟨L14, hLL⟩ : ∃ l, endO a1 L12 = l := ⟨_, rfl⟩
        rw [hLL] at HT14
        clear hLL
        refine ⟨hHeld, ?_⟩
        simp only [Act.put, List.setIfInBounds_toArray, List.set_cons_zero, List.set_cons_succ]
        have HCL := Lib.hid (HS14.out)
        refine held_one (i := 44) (by kernel_rfl) ?_
        refine held_callX (d := 117) rfl rfl (by rfl) rfl (by kernel_rfl) Try.func22 (by kernel_rfl) HCL.out ?_
        rintro e w15 ⟨rfl, hb15⟩
        have HT15 := Lib.hid (HT14.out.go hb15)
        have HB15 := Lib.hid (Below.then HB14.out hb15 (Nat.le_refl _))
        clear hb15 HT14 HB14 HS14
        refine ⟨_, rfl, ?_⟩
        clear HCL hHeld
        have hHeld := trivial
        generalize rc c14 w14.heap.size 0 = c15 at *
        refine ⟨hHeld, ?_⟩
        simp only [Act.put, List.setIfInBounds_toArray, List.set_cons_zero, List.set_cons_succ]
        refine held_take (i := 45) (d := 118) (v := .bool true) rfl rfl (by kernel_rfl) (by kernel_rfl) (by kernel_rfl) (fun _ _ _ h => h) (by rfl) (fun W _ => by go_simp) hHeld ?_
        simp only [Act.put, List.setIfInBounds_toArray, List.set_cons_zero, List.set_cons_succ]
        refine held_take (i := 46) (d := 119) (v := .bool true) rfl rfl (by kernel_rfl) (by kernel_rfl) (by kernel_rfl) (fun _ _ _ h => h) (by rfl) (fun W _ => run_move_is (.tmp 118) rfl rfl W) hHeld ?_
        simp only [Act.put, List.setIfInBounds_toArray, List.set_cons_zero, List.set_cons_succ]
        refine held_take (i := 47) (d := 120) (v := .pointer (some ⟨p, 0, none⟩)) rfl rfl (by kernel_rfl) (by kernel_rfl) (by kernel_rfl) (fun _ _ _ h => h) (by rfl) (fun W _ => run_move_is (.tmp 13) rfl rfl W) hHeld ?_
        simp only [Act.put, List.setIfInBounds_toArray, List.set_cons_zero, List.set_cons_succ]
        refine held_take (i := 49) (d := 122) (v := .pointer (some ⟨m, 0, none⟩)) rfl rfl (by kernel_rfl) (by kernel_rfl) (by kernel_rfl) (fun _ _ _ h => h) (by rfl) (fun W _ => run_move_is (.tmp 14) rfl rfl W) hHeld ?_
        simp only [Act.put, List.setIfInBounds_toArray, List.set_cons_zero, List.set_cons_succ]
        refine held_take (i := 50) (d := 123) (v := .pointer (some ⟨m, 0, none⟩)) rfl rfl (by kernel_rfl) (by kernel_rfl) (by kernel_rfl) (fun _ _ _ h => h) (by rfl) (fun W _ => by go_simp) hHeld ?_
        simp only [Act.put, List.setIfInBounds_toArray, List.set_cons_zero, List.set_cons_succ]
        refine held_take (i := 51) (d := 124) (v := .pointer (some ⟨m, 0, none⟩)) rfl rfl (by kernel_rfl) (by kernel_rfl) (by kernel_rfl) (fun _ _ _ h => h) (by rfl) (fun W _ => by go_simp) hHeld ?_
        simp only [Act.put, List.setIfInBounds_toArray, List.set_cons_zero, List.set_cons_succ]
        obtain ⟨A0, n0, cap0, k0, hk0⟩ := HT15.out.mb.r
        have HK0 := Lib.hid hk0
        have HLI := Lib.hid (listedL_any (some ⟨p, 0, none⟩) L14 w15 (by have := HT15.out.wl.len; omega) (fun W hb => all_any (HT15.out.lb.go hb).toq HT15.out.wl.srt HT15.out.wl.ri (by have := HT15.out.wl.len; omega)))
        clear hk0 hHeld
        refine held_two (i := 48) (j := 52) (by kernel_rfl) ?_ ?_
        · refine held_callX (d := 121) rfl rfl (by rfl) rfl (by kernel_rfl) Try.func25 (by kernel_rfl) HLI.out ?_
          rintro e w16 ⟨v16, rfl, ho16, hb16⟩
          obtain ⟨A16, n16, k16, rfl, hx16⟩ := ho16.shape
          have HX16 := Lib.hid hx16
          have HB16 := Lib.hid hb16
          have k1 := (hb16.cell (p := ⟨m, 0, none⟩) (lt_of_some k0)).trans k0
          refine ⟨_, rfl, ?_⟩
          clear ho16 hx16 hb16 HLI k0
          refine ⟨trivial, ?_⟩
          simp only [Act.put, List.setIfInBounds_toArray, List.set_cons_zero, List.set_cons_succ]
          refine held_one (i := 52) (by kernel_rfl) ?_
          refine held_make (d := 125) (v := .slice A0 n0 cap0) (w' := w16) rfl rfl (by rfl) (by go_simp) ?_
          refine ⟨trivial, ?_⟩
          simp only [Act.put, List.setIfInBounds_toArray, List.set_cons_zero, List.set_cons_succ]
          have hHeld : True := trivial
          have HCL := Lib.hid (sameB_any A16 A0 n16 n0 k16 cap0 L14 w16 HX16.out (HK0.out.go HB16.out))
          refine held_one (i := 53) (by kernel_rfl) ?_
          refine held_callX (d := 126) rfl rfl (by rfl) rfl (by kernel_rfl) Try.func22 (by kernel_rfl) HCL.out ?_
          rintro e w17 ⟨rfl, hb17⟩
          have HB17 := Lib.hid (Below.then (Below.then HB15.out HB16.out (Nat.le_refl _)) hb17 (Nat.le_refl _))
          clear hb17
          refine ⟨_, rfl, ?_⟩
          clear HCL hHeld
          have hHeld := trivial
          refine ⟨hHeld, ?_⟩
          simp only [Act.put, List.setIfInBounds_toArray, List.set_cons_zero, List.set_cons_succ]
          refine held_take (i := 54) (d := 127) (v := .bool true) rfl rfl (by kernel_rfl) (by kernel_rfl) (by kernel_rfl) (fun _ _ _ h => h) (by rfl) (fun W _ => by go_simp) hHeld ?_
          simp only [Act.put, List.setIfInBounds_toArray, List.set_cons_zero, List.set_cons_succ]
          refine held_take (i := 55) (d := 12) (v := .bool true) rfl rfl (by kernel_rfl) (by kernel_rfl) (by kernel_rfl) (fun _ _ _ h => h) (by rfl) (fun W _ => by go_simp) hHeld ?_
          simp only [Act.put, List.setIfInBounds_toArray, List.set_cons_zero, List.set_cons_succ]
          refine wpAnyH_done (by kernel_rfl) ?_ _
          clear hHeld
          clear HX16 HK0 HB16 HB15 HT15
          go_wp2
          go_ret
          exact ⟨rfl, HB17.out⟩
        · refine held_make (d := 125) (v := .slice A0 n0 cap0) (w' := w15) rfl rfl (by rfl) (by go_simp) ?_
          refine ⟨trivial, ?_⟩
          simp only [Act.put, List.setIfInBounds_toArray, List.set_cons_zero, List.set_cons_succ]
          refine held_one (i := 48) (by kernel_rfl) ?_
          refine held_callX (d := 121) rfl rfl (by rfl) rfl (by kernel_rfl) Try.func25 (by kernel_rfl) HLI.out ?_
          rintro e w16 ⟨v16, rfl, ho16, hb16⟩
          obtain ⟨A16, n16, k16, rfl, hx16⟩ := ho16.shape
          have HX16 := Lib.hid hx16
          have HB16 := Lib.hid hb16
          refine ⟨_, rfl, ?_⟩
          clear ho16 hx16 hb16 HLI k0
          refine ⟨trivial, ?_⟩
          simp only [Act.put, List.setIfInBounds_toArray, List.set_cons_zero, List.set_cons_succ]
          have hHeld : True := trivial
          have HCL := Lib.hid (sameB_any A16 A0 n16 n0 k16 cap0 L14 w16 HX16.out (HK0.out.go HB16.out))
          refine held_one (i := 53) (by kernel_rfl) ?_
          refine held_callX (d := 126) rfl rfl (by rfl) rfl (by kernel_rfl) Try.func22 (by kernel_rfl) HCL.out ?_
          rintro e w17 ⟨rfl, hb17⟩
          have HB17 := Lib.hid (Below.then (Below.then HB15.out HB16.out (Nat.le_refl _)) hb17 (Nat.le_refl _))
          clear hb17
          refine ⟨_, rfl, ?_⟩
          clear HCL hHeld
          have hHeld := trivial
          refine ⟨hHeld, ?_⟩
          simp only [Act.put, List.setIfInBounds_toArray, List.set_cons_zero, List.set_cons_succ]
          refine held_take (i := 54) (d := 127) (v := .bool true) rfl rfl (by kernel_rfl) (by kernel_rfl) (by kernel_rfl) (fun _ _ _ h => h) (by rfl) (fun W _ => by go_simp) hHeld ?_
          simp only [Act.put, List.setIfInBounds_toArray, List.set_cons_zero, List.set_cons_succ]
          refine held_take (i := 55) (d := 12) (v := .bool true) rfl rfl (by kernel_rfl) (by kernel_rfl) (by kernel_rfl) (fun _ _ _ h => h) (by rfl) (fun W _ => by go_simp) hHeld ?_
          simp only [Act.put, List.setIfInBounds_toArray, List.set_cons_zero, List.set_cons_succ]
          refine wpAnyH_done (by kernel_rfl) ?_ _
          clear hHeld
          clear HX16 HK0 HB16 HB15 HT15
          go_wp2
          go_ret
          exact ⟨rfl, HB17.out⟩
end Go.Proofs.Ytmmlelmkgnhofaa
