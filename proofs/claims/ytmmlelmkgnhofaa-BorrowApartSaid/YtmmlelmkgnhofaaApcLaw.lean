/-
  The law BorrowApart as a walk: called with any arguments of its types it returns true. No conditions.
-/
import Derived.Test.YtmmlelmkgnhofaaApb
namespace Go.Proofs.Ytmmlelmkgnhofaa
open Go.ChangeShapes Go.WideShapes Go.RowKit
set_option linter.unusedVariables false
set_option linter.unusedSimpArgs false
set_option maxHeartbeats 8000000
set_option maxRecDepth 100000

theorem borrowApart_walk (a0 : Option Addr) (len0 cap0 : Nat) (a1 : Option Addr) (len1 cap1 : Nat) (w : World) (w0 : Fou w w.heap.size a0 len0 cap0) (w1 : Fou w w.heap.size a1 len1 cap1) :
    Calls Try.prog 8 #[.slice a0 len0 cap0, .slice a1 len1 cap1] w fun e w' => e = .returned (.bool true) ∧ Below w.heap.size w w' := by
  have HD := Lib.hid w0
  have HD1 := Lib.hid w1
  have hcap := w0.cap
  have hsm := w0.small
  have hcap1 := w1.cap
  have hsm1 := w1.small
  unfold maxLen at hsm hsm1
  have HN := Lib.hid (newL_any w (fun _ => 0) 1)
  clear w0 w1
  go_enter Try.func8, Try.ntmps8
  go_wp2_with fail
  refine HN.out.mono ?_
  rintro e wa ⟨p, rfl, hp, hL, hb⟩
  have HP0 : Hid (Pv w 0 p wa.heap.size (wa.alloc (.cells #[.slice none 0 0] 28))) := Lib.hid ⟨hb.alloc hb.size _, _, _, Two.made hL hb (Nat.le_refl _)⟩
  clear HN hL hb
  go_wp2
  generalize wa.alloc (.cells #[.slice none 0 0] 28) = wb at *
  generalize wa.heap.size = m at *
  go_loopw [7] (fun kv wr => ∃ i : Nat, i ≤ len0 ∧ i ≤ 20 ∧ kv = .int .i64 i ∧ Hid (Pv w i p m wr)) (fun kv _ => 20 - (intOf kv).toNat)
  case atStart => exact ⟨0, by omega, by omega, rfl, HP0⟩
  case round =>
    obtain ⟨i, hi, hi20, rfl, hh⟩ := hrel
    have hi0 : (0 : Int) ≤ (i : Int) := by omega
    by_cases hin : i < len0 ∧ i < 20
    · have hi1 : (i : Int) < (len0 : Int) := by omega
      have hi2 : (i : Int) < 20 := by omega
      obtain ⟨hB, cf, L, hT⟩ := hh.out
      obtain ⟨b, o, x0, x1, x2, x3, rfl, hc, c0, c1, c2, c3⟩ := HD.out.load hin.1
      obtain ⟨g0, g1, g2, g3⟩ := hc _ hB
      have HB0 := Lib.hid hB
      have HT0 := Lib.hid hT
      have HST := Lib.hid (step14_any (x0 := x0) (x1 := x1) (x2 := x2) (x3 := x3) hT (by omega) c0 c1 c2 c3)
      clear hc hh hB hT
      go_wp2_with fail
      refine HST.out.mono ?_
      rintro e w5 hst
      obtain ⟨rfl, hb5, d5, hT5⟩ := Pv.step HB0.out HT0.out hst
      have HP : Hid (Pv w (i + 1) p m w5) := Lib.hid ⟨hb5, _, _, hT5⟩
      clear hst hb5 hT5 HST HB0 HT0 g0 g1 g2 g3
      go_wp2
      go_roundw
      case rel => exact ⟨i + 1, by omega, by omega, by go_num, HP⟩
      case measure => simp [intOf]; omega
    · rcases (by omega : (¬ i < len0) ∨ (i < len0 ∧ ¬ i < 20)) with hs | ⟨hs, hs2⟩
      · have hi1 : ¬ (i : Int) < (len0 : Int) := by omega
        obtain ⟨hB, cf, L, hT⟩ := hh.out
        have HB0 := Lib.hid hB
        have HT0 := Lib.hid (hT.mono (M := 20) (by omega))
        have HOF := Lib.hid (of_any hT.lb.toq (show Ri 3 from WalkArith.wf_i64 (by omega)) (by have := hT.wl.len; omega))
        clear hh hB hT
        go_wp2_with fail
        refine HOF.out.mono ?_
        rintro e w6 ⟨v6, rfl, ho6, hb6⟩
        have hA := Ap.start HB0.out HT0.out ho6 hb6
        obtain ⟨A6, n6, k6, rfl, _⟩ := ho6.shape
        have HA0 := Lib.hid hA
        clear hA ho6 hb6 HOF HB0 HT0
        go_wp2
        go_loopw [9] (fun kv wx => ∃ j : Nat, j ≤ len1 ∧ j ≤ 20 ∧ kv = .int .i64 j ∧ Hid (Ap w (20 + j) p m (.slice A6 n6 k6) wx)) (fun kv _ => 20 - (intOf kv).toNat)
        case atStart => exact ⟨0, by omega, by omega, rfl, HA0⟩
        case round =>
          obtain ⟨j, hj, hj20, rfl, hh⟩ := hrel
          have hj0 : (0 : Int) ≤ (j : Int) := by omega
          by_cases hjn : j < len1 ∧ j < 20
          · have hj1 : (j : Int) < (len1 : Int) := by omega
            have hj2 : (j : Int) < 20 := by omega
            obtain ⟨hB, cg, M, hT, hor, hoc⟩ := hh.out
            obtain ⟨b', o', x0, x1, x2, x3, rfl, hc, c0, c1, c2, c3⟩ := HD1.out.load hjn.1
            obtain ⟨g0, g1, g2, g3⟩ := hc _ hB
            have e1 := Int.emod_nonneg x1 (show (3 : Int) ≠ 0 by omega)
            have e2 := Int.emod_lt_of_pos x1 (show (0 : Int) < 3 by omega)
            have e12 := Int.emod_nonneg x0 (show (12 : Int) ≠ 0 by omega)
            have hb1 : Below wr.heap.size wr (wr.alloc (.cells #[.int .u8 x0, .int .u8 (x1 % 3), .int .u8 x2, .int .u8 x3] 30)) := (Below.refl _ _).alloc (Nat.le_refl _) _
            have HX1 : Hid (Bx4 (wr.alloc (.cells #[.int .u8 x0, .int .u8 (x1 % 3), .int .u8 x2, .int .u8 x3] 30)) wr.heap.size x0 (x1 % 3) x2 x3) := Lib.hid (heap_alloc_new wr _)
            have HAP := Lib.hid (hh.out.go hb1)
            clear hc hh hB hT hor hoc hb1
            by_cases hx12 : x0 % 12 = 1
            · go_wp2
              have HAN : Hid (Ap w (20 + (j + 1)) p m (.slice A6 n6 k6) (wr.alloc (.cells #[.int .u8 x0, .int .u8 (x1 % 3), .int .u8 x2, .int .u8 x3] 30))) := Lib.hid (HAP.out.mono (by omega))
              clear HAP HX1
              go_roundw
              case rel => exact ⟨j + 1, by omega, by omega, by go_num, HAN⟩
              case measure => simp [intOf]; omega
            · obtain ⟨hB1, c1', L1, hT1, ho1, h01⟩ := HAP.out
              have HB1 := Lib.hid hB1
              have HT1 := Lib.hid hT1
              have HO1 := Lib.hid ho1
              have H01 := Lib.hid h01
              have HOFL := Lib.hid (stp_of (q := 3) (x0 := x0) (x1 := x1 % 3) (x2 := x2) (x3 := x3) (L := L1) hx12 (by omega))
              have hx12' : (x0 % 12 != 1) = true := by simpa using hx12
              obtain ⟨q0, q1, q2, q3⟩ := HX1.out.cells
              clear HAP hB1 hT1 ho1 h01
              go_wp2_with fail
              generalize wr.alloc (.cells #[.int .u8 x0, .int .u8 (x1 % 3), .int .u8 x2, .int .u8 x3] 30) = w1 at *
              generalize wr.heap.size = bx at *
              refine (step14_any (x0 := x0) (x1 := x1 % 3) (x2 := x2) (x3 := x3) HT1.out (by omega) c0 (by omega) c2 c3).mono ?_
              rintro e w5 hst
              obtain ⟨rfl, hA5⟩ := Ap.step HB1.out HT1.out HO1.out H01.out HOFL.out hst
              have HAN : Hid (Ap w (20 + (j + 1)) p m (.slice A6 n6 k6) w5) := Lib.hid (hA5.mono (by omega))
              clear hst hA5 HB1 HT1 HO1 H01 HOFL HX1 g0 g1 g2 g3 q0 q1 q2 q3
              go_wp2
              go_roundw
              case rel => exact ⟨j + 1, by omega, by omega, by go_num, HAN⟩
              case measure => simp [intOf]; omega
          · rcases (by omega : (¬ j < len1) ∨ (j < len1 ∧ ¬ j < 20)) with hs | ⟨hs, hs2⟩
            · have hj1 : ¬ (j : Int) < (len1 : Int) := by omega
              have HA := hh
              clear hh
              go_wp2_with fail
              refine (awake14_any wr).mono ?_
              rintro e w7 ⟨rfl, hb7⟩
              have HA7 := Lib.hid (HA.out.go hb7)
              obtain ⟨hB7, c7, L7, hT7, ho7, h07⟩ := HA7.out
              have HB7 := Lib.hid hB7
              have HO7 := Lib.hid ho7
              have HOF := Lib.hid (of_any hT7.lb.toq (show Ri 3 from WalkArith.wf_i64 (by omega)) (by have := hT7.wl.len; omega))
              clear hb7 hB7 hT7 ho7 h07 HA
              go_wp2_with fail
              refine HOF.out.mono ?_
              rintro e w8 ⟨v8, rfl, ho8, hb8⟩
              obtain ⟨A8, n8, k8, rfl, hx8⟩ := ho8.shape
              obtain ⟨_, _, _, e7, hx7⟩ := (HO7.out.below hb8).shape
              cases e7
              have HSM := Lib.hid (sameB_any A8 A6 n8 n6 k8 k6 _ w8 hx8 hx7)
              have HB8 := Lib.hid (Below.then HB7.out hb8 (Nat.le_refl _))
              clear ho8 hb8 hx8 hx7 HOF HO7 HA7
              go_wp2_with fail
              refine HSM.out.mono ?_
              rintro e w9 ⟨rfl, hb9⟩
              have HB9 := Lib.hid (Below.then HB8.out hb9 (Nat.le_refl _))
              clear hb9 HSM
              go_wp2
              go_ret
              exact ⟨rfl, HB9.out⟩
            · have hj1 : (j : Int) < (len1 : Int) := by omega
              have hj2 : ¬ (j : Int) < 20 := by omega
              have HA := hh
              clear hh
              go_wp2_with fail
              refine (awake14_any wr).mono ?_
              rintro e w7 ⟨rfl, hb7⟩
              have HA7 := Lib.hid (HA.out.go hb7)
              obtain ⟨hB7, c7, L7, hT7, ho7, h07⟩ := HA7.out
              have HB7 := Lib.hid hB7
              have HO7 := Lib.hid ho7
              have HOF := Lib.hid (of_any hT7.lb.toq (show Ri 3 from WalkArith.wf_i64 (by omega)) (by have := hT7.wl.len; omega))
              clear hb7 hB7 hT7 ho7 h07 HA
              go_wp2_with fail
              refine HOF.out.mono ?_
              rintro e w8 ⟨v8, rfl, ho8, hb8⟩
              obtain ⟨A8, n8, k8, rfl, hx8⟩ := ho8.shape
              obtain ⟨_, _, _, e7, hx7⟩ := (HO7.out.below hb8).shape
              cases e7
              have HSM := Lib.hid (sameB_any A8 A6 n8 n6 k8 k6 _ w8 hx8 hx7)
              have HB8 := Lib.hid (Below.then HB7.out hb8 (Nat.le_refl _))
              clear ho8 hb8 hx8 hx7 HOF HO7 HA7
              go_wp2_with fail
              refine HSM.out.mono ?_
              rintro e w9 ⟨rfl, hb9⟩
              have HB9 := Lib.hid (Below.then HB8.out hb9 (Nat.le_refl _))
              clear hb9 HSM
              go_wp2
              go_ret
              exact ⟨rfl, HB9.out⟩
      · have hi1 : (i : Int) < (len0 : Int) := by omega
        have hi2 : ¬ (i : Int) < 20 := by omega
        obtain ⟨hB, cf, L, hT⟩ := hh.out
        have HB0 := Lib.hid hB
        have HT0 := Lib.hid (hT.mono (M := 20) (by omega))
        have HOF := Lib.hid (of_any hT.lb.toq (show Ri 3 from WalkArith.wf_i64 (by omega)) (by have := hT.wl.len; omega))
        clear hh hB hT
        go_wp2_with fail
        refine HOF.out.mono ?_
        rintro e w6 ⟨v6, rfl, ho6, hb6⟩
        have hA := Ap.start HB0.out HT0.out ho6 hb6
        obtain ⟨A6, n6, k6, rfl, _⟩ := ho6.shape
        have HA0 := Lib.hid hA
        clear hA ho6 hb6 HOF HB0 HT0
        go_wp2
        go_loopw [9] (fun kv wx => ∃ j : Nat, j ≤ len1 ∧ j ≤ 20 ∧ kv = .int .i64 j ∧ Hid (Ap w (20 + j) p m (.slice A6 n6 k6) wx)) (fun kv _ => 20 - (intOf kv).toNat)
        case atStart => exact ⟨0, by omega, by omega, rfl, HA0⟩
        case round =>
          obtain ⟨j, hj, hj20, rfl, hh⟩ := hrel
          have hj0 : (0 : Int) ≤ (j : Int) := by omega
          by_cases hjn : j < len1 ∧ j < 20
          · have hj1 : (j : Int) < (len1 : Int) := by omega
            have hj2 : (j : Int) < 20 := by omega
            obtain ⟨hB, cg, M, hT, hor, hoc⟩ := hh.out
            obtain ⟨b', o', x0, x1, x2, x3, rfl, hc, c0, c1, c2, c3⟩ := HD1.out.load hjn.1
            obtain ⟨g0, g1, g2, g3⟩ := hc _ hB
            have e1 := Int.emod_nonneg x1 (show (3 : Int) ≠ 0 by omega)
            have e2 := Int.emod_lt_of_pos x1 (show (0 : Int) < 3 by omega)
            have e12 := Int.emod_nonneg x0 (show (12 : Int) ≠ 0 by omega)
            have hb1 : Below wr.heap.size wr (wr.alloc (.cells #[.int .u8 x0, .int .u8 (x1 % 3), .int .u8 x2, .int .u8 x3] 30)) := (Below.refl _ _).alloc (Nat.le_refl _) _
            have HX1 : Hid (Bx4 (wr.alloc (.cells #[.int .u8 x0, .int .u8 (x1 % 3), .int .u8 x2, .int .u8 x3] 30)) wr.heap.size x0 (x1 % 3) x2 x3) := Lib.hid (heap_alloc_new wr _)
            have HAP := Lib.hid (hh.out.go hb1)
            clear hc hh hB hT hor hoc hb1
            by_cases hx12 : x0 % 12 = 1
            · go_wp2
              have HAN : Hid (Ap w (20 + (j + 1)) p m (.slice A6 n6 k6) (wr.alloc (.cells #[.int .u8 x0, .int .u8 (x1 % 3), .int .u8 x2, .int .u8 x3] 30))) := Lib.hid (HAP.out.mono (by omega))
              clear HAP HX1
              go_roundw
              case rel => exact ⟨j + 1, by omega, by omega, by go_num, HAN⟩
              case measure => simp [intOf]; omega
            · obtain ⟨hB1, c1', L1, hT1, ho1, h01⟩ := HAP.out
              have HB1 := Lib.hid hB1
              have HT1 := Lib.hid hT1
              have HO1 := Lib.hid ho1
              have H01 := Lib.hid h01
              have HOFL := Lib.hid (stp_of (q := 3) (x0 := x0) (x1 := x1 % 3) (x2 := x2) (x3 := x3) (L := L1) hx12 (by omega))
              have hx12' : (x0 % 12 != 1) = true := by simpa using hx12
              obtain ⟨q0, q1, q2, q3⟩ := HX1.out.cells
              clear HAP hB1 hT1 ho1 h01
              go_wp2_with fail
              generalize wr.alloc (.cells #[.int .u8 x0, .int .u8 (x1 % 3), .int .u8 x2, .int .u8 x3] 30) = w1 at *
              generalize wr.heap.size = bx at *
              refine (step14_any (x0 := x0) (x1 := x1 % 3) (x2 := x2) (x3 := x3) HT1.out (by omega) c0 (by omega) c2 c3).mono ?_
              rintro e w5 hst
              obtain ⟨rfl, hA5⟩ := Ap.step HB1.out HT1.out HO1.out H01.out HOFL.out hst
              have HAN : Hid (Ap w (20 + (j + 1)) p m (.slice A6 n6 k6) w5) := Lib.hid (hA5.mono (by omega))
              clear hst hA5 HB1 HT1 HO1 H01 HOFL HX1 g0 g1 g2 g3 q0 q1 q2 q3
              go_wp2
              go_roundw
              case rel => exact ⟨j + 1, by omega, by omega, by go_num, HAN⟩
              case measure => simp [intOf]; omega
          · rcases (by omega : (¬ j < len1) ∨ (j < len1 ∧ ¬ j < 20)) with hs | ⟨hs, hs2⟩
            · have hj1 : ¬ (j : Int) < (len1 : Int) := by omega
              have HA := hh
              clear hh
              go_wp2_with fail
              refine (awake14_any wr).mono ?_
              rintro e w7 ⟨rfl, hb7⟩
              have HA7 := Lib.hid (HA.out.go hb7)
              obtain ⟨hB7, c7, L7, hT7, ho7, h07⟩ := HA7.out
              have HB7 := Lib.hid hB7
              have HO7 := Lib.hid ho7
              have HOF := Lib.hid (of_any hT7.lb.toq (show Ri 3 from WalkArith.wf_i64 (by omega)) (by have := hT7.wl.len; omega))
              clear hb7 hB7 hT7 ho7 h07 HA
              go_wp2_with fail
              refine HOF.out.mono ?_
              rintro e w8 ⟨v8, rfl, ho8, hb8⟩
              obtain ⟨A8, n8, k8, rfl, hx8⟩ := ho8.shape
              obtain ⟨_, _, _, e7, hx7⟩ := (HO7.out.below hb8).shape
              cases e7
              have HSM := Lib.hid (sameB_any A8 A6 n8 n6 k8 k6 _ w8 hx8 hx7)
              have HB8 := Lib.hid (Below.then HB7.out hb8 (Nat.le_refl _))
              clear ho8 hb8 hx8 hx7 HOF HO7 HA7
              go_wp2_with fail
              refine HSM.out.mono ?_
              rintro e w9 ⟨rfl, hb9⟩
              have HB9 := Lib.hid (Below.then HB8.out hb9 (Nat.le_refl _))
              clear hb9 HSM
              go_wp2
              go_ret
              exact ⟨rfl, HB9.out⟩
            · have hj1 : (j : Int) < (len1 : Int) := by omega
              have hj2 : ¬ (j : Int) < 20 := by omega
              have HA := hh
              clear hh
              go_wp2_with fail
              refine (awake14_any wr).mono ?_
              rintro e w7 ⟨rfl, hb7⟩
              have HA7 := Lib.hid (HA.out.go hb7)
              obtain ⟨hB7, c7, L7, hT7, ho7, h07⟩ := HA7.out
              have HB7 := Lib.hid hB7
              have HO7 := Lib.hid ho7
              have HOF := Lib.hid (of_any hT7.lb.toq (show Ri 3 from WalkArith.wf_i64 (by omega)) (by have := hT7.wl.len; omega))
              clear hb7 hB7 hT7 ho7 h07 HA
              go_wp2_with fail
              refine HOF.out.mono ?_
              rintro e w8 ⟨v8, rfl, ho8, hb8⟩
              obtain ⟨A8, n8, k8, rfl, hx8⟩ := ho8.shape
              obtain ⟨_, _, _, e7, hx7⟩ := (HO7.out.below hb8).shape
              cases e7
              have HSM := Lib.hid (sameB_any A8 A6 n8 n6 k8 k6 _ w8 hx8 hx7)
              have HB8 := Lib.hid (Below.then HB7.out hb8 (Nat.le_refl _))
              clear ho8 hb8 hx8 hx7 HOF HO7 HA7
              go_wp2_with fail
              refine HSM.out.mono ?_
              rintro e w9 ⟨rfl, hb9⟩
              have HB9 := Lib.hid (Below.then HB8.out hb9 (Nat.le_refl _))
              clear hb9 HSM
              go_wp2
              go_ret
              exact ⟨rfl, HB9.out⟩
end Go.Proofs.Ytmmlelmkgnhofaa
