/-
  The example of the chapter. No conditions.
-/
import Derived.Test.YtmmlelmkgnhofaaSbo
namespace Go.Proofs.Ytmmlelmkgnhofaa
open Go.ChangeShapes Go.WideShapes Go.ChangeAt Go.RowKit
set_option linter.unusedVariables false
set_option linter.unusedSimpArgs false
set_option maxHeartbeats 4000000
set_option maxRecDepth 100000

def exb (n : Int) : List Bo := [⟨5, 2, 1, n⟩]
theorem exb_l0 : lendE 5 1 [] = 0 ∧ lendL 5 2 1 [] = exb 1 := ⟨rfl, rfl⟩
theorem exb_l1 : lendE 5 1 (exb 1) = 0 ∧ lendL 5 2 1 (exb 1) = exb 2 := ⟨rfl, rfl⟩
theorem exb_r : relL 5 2 (exb 2) = exb 1 := rfl
theorem exb_h : hasL 5 2 (exb 2) = some ⟨5, 2, 1, 2⟩ := rfl
theorem exb_a1 : accE 5 2 false 1 (exb 1) = 0 := rfl
theorem exb_a2 : accE 5 1 true 1 (exb 1) = 0 := rfl
theorem exb_a3 : accE 5 1 true 2 (exb 1) = 14 := rfl
theorem ri5 : Ri 5 := by unfold Ri; decide
theorem awake14_any (w : World) : Calls Try.prog 13 #[] w fun e w' => e = .returned (.bool true) ∧ Below w.heap.size w w' := by
  have hw0 : Wl 0 [] := Wl.nil
  have hw1 : Wl 1 (exb 1) := by have := hw0.lend (o := 5) (h := 2) (m := 1) ri5; rw [exb_l0.2] at this; exact this
  have hw2 : Wl 2 (exb 2) := by have := hw1.lend (o := 5) (h := 2) (m := 1) ri5; rw [exb_l1.2] at this; exact this
  have HW0 := Lib.hid hw0
  have HW1 := Lib.hid hw1
  have HW2 := Lib.hid hw2
  clear hw0 hw1 hw2
  have HN := Lib.hid (newL_any w (fun _ => 0) 1)
  go_enter Try.func13, Try.ntmps13
  go_wp2_with fail
  refine HN.out.mono ?_
  rintro e w2 ⟨p, rfl, hp, hL, hb⟩
  have HB := Lib.hid hb
  have HI := Lib.hid (lend_any (o := 5) (h := 2) (m := 1) hL HW0.out (by omega) ri5)
  rw [exb_l0.1, exb_l0.2] at HI
  clear HN hL hb
  go_wp2_with fail
  refine HI.out.mono ?_
  rintro e w3 ⟨rfl, hL, hk⟩
  have HB3 : Hid (Below w.heap.size w w3) := Lib.hid (HB.out.trans (hk.below (fun g hg => by rw [rc_old hg]; omega) HB.out.size))
  have HI3 := Lib.hid (lend_any (o := 5) (h := 2) (m := 1) hL HW1.out (by omega) ri5)
  rw [exb_l1.1, exb_l1.2] at HI3
  have hz : w.heap.size ≤ w2.heap.size := HB.out.size
  clear HI hL hk HB
  go_wp2_with fail
  refine HI3.out.mono ?_
  rintro e w4 ⟨rfl, hL, hk⟩
  have HB4 : Hid (Below w.heap.size w w4) := Lib.hid (HB3.out.trans (hk.below (fun g hg => by rw [rc_old (by omega), rc_old hg]; omega) HB3.out.size))
  have hz3 : w.heap.size ≤ w3.heap.size := HB3.out.size
  have HI4 := Lib.hid (release_yes hL HW2.out (by omega) ri5 exb_h)
  rw [exb_r] at HI4
  clear HI3 hL hk HB3
  go_wp2_with fail
  refine HI4.out.mono ?_
  rintro e w5 ⟨rfl, hL, hk⟩
  have HB5 : Hid (Below w.heap.size w w5) := Lib.hid (HB4.out.trans (hk.below (fun g hg => by rw [rc_old (by omega), rc_old (by omega), rc_old hg]; omega) HB4.out.size))
  have HL5 := Lib.hid hL
  have HA1 := Lib.hid (access_any (p := 2) false 1 hL.toq ri5 HW1.out.srt (by decide))
  rw [exb_a1] at HA1
  clear HI4 hL hk HB4
  go_wp2_with fail
  refine HA1.out.mono ?_
  rintro e w6 ⟨rfl, hb⟩
  have HB6 := Lib.hid (Below.then HB5.out hb (Nat.le_refl _))
  have HL6 := Lib.hid (HL5.out.go hb)
  have HA2 := Lib.hid (access_any (p := 1) true 1 HL6.out.toq ri5 HW1.out.srt (by decide))
  rw [exb_a2] at HA2
  clear HA1 hb HB5 HL5
  go_wp2_with fail
  refine HA2.out.mono ?_
  rintro e w7 ⟨rfl, hb⟩
  have HB7 := Lib.hid (Below.then HB6.out hb (Nat.le_refl _))
  have HL7 := Lib.hid (HL6.out.go hb)
  have HA3 := Lib.hid (access_any (p := 1) true 2 HL7.out.toq ri5 HW1.out.srt (by decide))
  rw [exb_a3] at HA3
  clear HA2 hb HB6 HL6
  go_wp2_with fail
  refine HA3.out.mono ?_
  rintro e w8 ⟨rfl, hb⟩
  have HB8 := Lib.hid (Below.then HB7.out hb (Nat.le_refl _))
  clear HA3 hb HB7 HL7
  go_wp2
  go_ret
  exact ⟨rfl, HB8.out⟩
end Go.Proofs.Ytmmlelmkgnhofaa
