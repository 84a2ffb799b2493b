/-
  The law QuotaPlays as a walk: called with any arguments of its types it returns true. No conditions.
-/
import Derived.Test.YtfhpdjlppblkcaaQst
import Derived.Test.YtfhpdjlppblkcaaFiv
namespace Go.Proofs.Ytfhpdjlppblkcaa
open Go.ChangeShapes Go.WideShapes Go.RowKit
set_option linter.unusedVariables false
set_option linter.unusedSimpArgs false
set_option maxHeartbeats 8000000
set_option maxRecDepth 100000

theorem quotaPlays_walk (x0 y0 z0 : Int) (a1 : Option Addr) (len1 cap1 : Nat) (w : World) (w0 : Three x0 y0 z0) (w1 : Fiv w w.heap.size a1 len1 cap1) :
    Calls Try.prog 3 #[.agg #[.int .u8 x0, .int .u8 y0, .int .u8 z0], .slice a1 len1 cap1] w fun e w' => e = .returned (.bool true) ∧ Below w.heap.size w w' := by
  obtain ⟨hx0, hy0, hz0⟩ := w0
  have HD := Lib.hid w1
  have hcap := w1.cap
  have hsm := w1.small
  unfold maxLen at hsm
  have e1 := Int.emod_nonneg y0 (show (9 : Int) ≠ 0 by omega)
  have e2 := Int.emod_nonneg z0 (show (9 : Int) ≠ 0 by omega)
  have e1' := Int.emod_lt_of_pos y0 (show (0 : Int) < 9 by omega)
  have e2' := Int.emod_lt_of_pos z0 (show (0 : Int) < 9 by omega)
  have hli : Q3.In ⟨x0, y0 % 9, z0 % 9⟩ := by
    unfold Q3.In
    simp only
    omega
  have HLI := Lib.hid hli
  have hb : Below w.heap.size w ((w.alloc (.cells #[.int .u8 x0, .int .u8 y0, .int .u8 z0] 22)).alloc (.cells #[.int .i64 x0, .int .i64 (y0 % 9), .int .i64 (z0 % 9)] 25)) := ((Below.refl _ _).alloc (Nat.le_refl _) _).alloc (by simp) _
  have HB := Lib.hid hb
  have hq0 := heap_alloc_new (w.alloc (.cells #[.int .u8 x0, .int .u8 y0, .int .u8 z0] 22)) (.cells #[.int .i64 x0, .int .i64 (y0 % 9), .int .i64 (z0 % 9)] 25)
  rw [show (w.alloc (.cells #[.int .u8 x0, .int .u8 y0, .int .u8 z0] 22)).heap.size = w.heap.size + 1 by simp] at hq0
  have HQ0 := Lib.hid hq0
  have HN := Lib.hid (newQ_any ⟨x0, y0 % 9, z0 % 9⟩ ((w.alloc (.cells #[.int .u8 x0, .int .u8 y0, .int .u8 z0] 22)).alloc (.cells #[.int .i64 x0, .int .i64 (y0 % 9), .int .i64 (z0 % 9)] 25)) (fun _ => 0) 1)
  unfold Q3.val at HN
  simp only at HN
  clear w1 hb hli hq0
  go_enter Try.func3, Try.ntmps3
  go_wp2_with fail
  generalize (w.alloc (.cells #[.int .u8 x0, .int .u8 y0, .int .u8 z0] 22)).alloc (.cells #[.int .i64 x0, .int .i64 (y0 % 9), .int .i64 (z0 % 9)] 25) = w3 at *
  refine HN.out.mono ?_
  rintro e wa ⟨p, rfl, hp, hL, hb⟩
  have HT0 := Lib.hid (Ts.made hL hb)
  have hqa := (hb.block _ (Array.getElem?_eq_some_iff.1 HQ0.out).1).trans HQ0.out
  obtain ⟨q0, q1, q2⟩ := cells3 hqa
  clear HN hL hb hqa hp
  simp only at HT0
  go_wp2
  generalize wa.alloc (.cells #[.int .i64 x0, .int .i64 (y0 % 9), .int .i64 (z0 % 9), .slice none 0 0] 31) = wb at *
  generalize wa.heap.size = m at *
  have HT1 : Hid (∃ f, Ts w3 (fun _ => 0) (4 * 0) p m ⟨x0, y0 % 9, z0 % 9⟩ f f wb) := Lib.hid ⟨_, HT0.out⟩
  clear HT0 q0 q1 q2
  generalize hl : Q3.mk x0 (y0 % 9) (z0 % 9) = l at *
  clear hl
  go_loopw [8, 9] (fun kv jv wr => ∃ i : Nat, i ≤ len1 ∧ i ≤ 40 ∧ kv = .int .i64 i ∧ Hid (∃ f, Ts w3 (fun _ => 0) (4 * i) p m l f f wr)) (fun kv _ _ => 40 - (intOf kv).toNat)
  case atStart => exact ⟨0, by omega, by omega, rfl, HT1⟩
  case round =>
    rename World => wv
    obtain ⟨i, hi, hi40, rfl, hh⟩ := hrel
    have hi0 : (0 : Int) ≤ (i : Int) := by omega
    by_cases hin : i < len1
    · have hi1 : (i : Int) < (len1 : Int) := by omega
      by_cases h40 : i < 40
      · have hi2 : (i : Int) < 40 := by omega
        obtain ⟨f, hT⟩ := hh.out
        obtain ⟨b, o, x0', x1, x2, x3, x4, rfl, hc, c0, c1, c2, c3, c4⟩ := HD.out.load hin
        obtain ⟨g0, g1, g2, g3, g4⟩ := hc _ (HB.out.trans (hT.below.mono HB.out.size))
        have HS := Lib.hid (hT.step HLI.out (by omega) x0' x1 x2 x3 x4 c0 c1 c2 c3 c4)
        generalize stpF l x0' (x1 % 4) (amt x2 x3 x4) f = f' at *
        clear hh hc hT
        go_wp2_with fail
        refine HS.out.mono ?_
        rintro e wc ⟨rfl, hT⟩
        have HT2 := Lib.hid hT
        clear HS hT g0 g1 g2 g3 g4 c0 c1 c2 c3 c4
        go_wp2
        go_loopw [9] (fun jv wr => ∃ j : Nat, j ≤ 4 ∧ jv = .int .i64 j ∧ Hid (Ts w3 (fun _ => 0) (4 * i + 4) p m l f' f' wr)) (fun jv _ => 4 - (intOf jv).toNat)
        case atStart => exact ⟨0, by omega, rfl, HT2⟩
        case round =>
          obtain ⟨j, hj, rfl, hh⟩ := hrel
          have hj0 : (0 : Int) ≤ (j : Int) := by omega
          by_cases hj4 : j < 4
          · have hj1 : (j : Int) < 4 := by omega
            have HRJ : Hid (Ri (j : Int)) := Lib.hid (WalkArith.wf_i64 (by omega))
            obtain ⟨⟨xb, xo, xh⟩, hx⟩ : ∃ x, f' (j : Int) = x := ⟨_, rfl⟩
            have HX := Lib.hid hx
            have HG := Lib.hid (hh.out.getL' HRJ.out hx)
            clear hh hx
            go_wp2_with fail
            refine HG.out.mono ?_
            rintro e wd ⟨rfl, hT⟩
            have HG2 := Lib.hid (hT.getR' HX.out)
            have heq := eq_q3 xb xo xh xb xo xh
            clear HG hT
            go_wp2_with fail
            refine HG2.out.mono ?_
            rintro e we ⟨rfl, hT⟩
            have HT3 := Lib.hid hT
            clear HG2 hT
            go_wp2
            go_roundw
            case rel => exact ⟨j + 1, by omega, by go_num, HT3⟩
            case measure => simp [intOf]; omega
          · obtain rfl : j = 4 := by omega
            have HT3 : Hid (∃ f, Ts w3 (fun _ => 0) (4 * (i + 1)) p m l f f wr) := Lib.hid ⟨f', hh.out⟩
            clear hh
            go_wp2
            go_roundw
            case rel => exact ⟨i + 1, by omega, by omega, by go_num, HT3⟩
            case measure => simp [intOf]; omega
      · have hi2 : ¬ (i : Int) < 40 := by omega
        obtain ⟨f, hT⟩ := hh.out
        have HBA : Hid (Below w.heap.size w wv) := Lib.hid (HB.out.trans (hT.below.mono HB.out.size))
        clear hh hT
        go_wp2_with fail
        refine (awake15_any wv).mono ?_
        rintro e w4 ⟨rfl, hb4⟩
        have HB4 := Lib.hid (Below.then HBA.out hb4 (Nat.le_refl _))
        clear hb4
        go_wp2
        go_ret
        exact ⟨rfl, HB4.out⟩
    · have hi1 : ¬ (i : Int) < (len1 : Int) := by omega
      obtain ⟨f, hT⟩ := hh.out
      have HBA : Hid (Below w.heap.size w wv) := Lib.hid (HB.out.trans (hT.below.mono HB.out.size))
      clear hh hT
      go_wp2_with fail
      refine (awake15_any wv).mono ?_
      rintro e w4 ⟨rfl, hb4⟩
      have HB4 := Lib.hid (Below.then HBA.out hb4 (Nat.le_refl _))
      clear hb4
      go_wp2
      go_ret
      exact ⟨rfl, HB4.out⟩
end Go.Proofs.Ytfhpdjlppblkcaa
