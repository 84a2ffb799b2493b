/-
  The law's comparison of a ledger with its model. Conditions: at most a hundred thousand borrows.
-/
import Derived.Test.YtmmlelmkgnhofaaBst
namespace Go.Proofs.Ytmmlelmkgnhofaa
open Go.ChangeShapes Go.WideShapes Go.RowKit
set_option linter.unusedVariables false
set_option linter.unusedSimpArgs false
set_option maxHeartbeats 8000000
set_option maxRecDepth 100000

theorem BoB.go {w w' : World} {b : Nat} {x : Bo} (h : BoB w b x) (hb : Below w.heap.size w w') : BoB w' b x := (hb.block b (Array.getElem?_eq_some_iff.1 h).1).trans h
theorem alike14_any (w : World) (c : Nat → Nat) (kp p m N : Nat) (L : List Bo) (o h : Int) (hT : Led w c kp p L) (hM : Mlr w m L) (hW : Wl N L) (hN : N ≤ 100000) (ho : Ri o) :
    Calls Try.prog 12 #[.pointer (some ⟨p, 0, none⟩), .pointer (some ⟨m, 0, none⟩), .int .i64 o, .int .i64 h] w fun e w' => e = .returned (.bool true) ∧ Below w.heap.size w w' := by
  have HW := Lib.hid hW
  have HNL : Hid (L.length ≤ 100000) := Lib.hid (Nat.le_trans hW.len hN)
  have HQ := Lib.hid (fun W (hb : Below w.heap.size w W) => (hT.go hb).toq)
  have HR := Lib.hid (fun W (hb : Below w.heap.size w W) => hM.go hb)
  have HL1 := Lib.hid (holds_any (p := h) hT.toq ho hW.srt (by have := HNL.out; omega))
  have HL2 := Lib.hid (fun W (hb : Below w.heap.size w W) => holdsR_any (o := o) (h := h) (HR.out W hb) HNL.out)
  unfold HoE boA at HL1 HL2
  obtain ⟨⟨b0, b1, b2, b3⟩, hv⟩ : ∃ v, boV (hasL o h L) = v := ⟨_, rfl⟩
  rw [hv] at HL1 HL2
  generalize (hasL o h L).isSome = f at *
  simp only at HL1 HL2
  clear hT hM hv
  go_enter Try.func12, Try.ntmps12
  go_wp2_with fail
  refine HL1.out.mono ?_
  rintro e w1 ⟨rfl, hb1⟩
  have hb2 : Below w.heap.size w (w1.alloc (.cells #[.int .i64 b0, .int .i64 b1, .int .i64 b2, .int .i64 b3] 47)) := hb1.alloc hb1.size _
  have HB2 := Lib.hid hb2
  have HX2 := Lib.hid (BoB.new (w := w1) (x := ⟨b0, b1, b2, b3⟩))
  have HH2 := Lib.hid (HL2.out _ hb2)
  clear HL1 hb1 hb2
  go_wp2_with fail
  generalize w1.alloc (.cells #[.int .i64 b0, .int .i64 b1, .int .i64 b2, .int .i64 b3] 47) = w2 at *
  generalize w1.heap.size = ba at *
  refine HH2.out.mono ?_
  rintro e w3 ⟨rfl, hb3⟩
  have hb4 : Below w2.heap.size w2 (w3.alloc (.cells #[.int .i64 b0, .int .i64 b1, .int .i64 b2, .int .i64 b3] 47)) := hb3.alloc hb3.size _
  have HB4 := Lib.hid (Below.then HB2.out hb4 (Nat.le_refl _))
  have HX4 := Lib.hid (HX2.out.go hb4)
  have HY4 := Lib.hid (BoB.new (w := w3) (x := ⟨b0, b1, b2, b3⟩))
  clear HL2 HH2 hb3 hb4 HB2 HX2
  go_wp2_with fail
  generalize w3.alloc (.cells #[.int .i64 b0, .int .i64 b1, .int .i64 b2, .int .i64 b3] 47) = w4 at *
  generalize w3.heap.size = bb at *
  have heq := same_bo b0 b1 b2 b3
  have hd0 : Below w4.heap.size w4 w4.drew := below_drewN (Below.refl _ _) 1
  have HB5 := Lib.hid hd0
  clear hd0
  refine wp_region_hand 37 (fun W => Below w4.heap.size w4 W) (by kernel_rfl) (by kernel_rfl) ?_
  rw [show Array.replicate 37 false = #[false, false, false, false, false, false, false, false, false, false, false, false, false, false, false, false, false, false, false, false, false, false, false, false, false, false, false, false, false, false, false, false, false, false, false, false, false] from rfl]
  have hHeld := HB5.out
  refine held_take (i := 0) (d := 28) (v := .agg #[.int .i64 b0, .int .i64 b1, .int .i64 b2, .int .i64 b3]) rfl rfl (by kernel_rfl) (by kernel_rfl) (by kernel_rfl) (fun _ _ _ h => h) (by rfl) (fun W hS => by obtain ⟨g0, g1, g2, g3⟩ := (HX4.out.go hS).cells; go_simp) hHeld ?_
  simp only [Act.put, List.setIfInBounds_toArray, List.set_cons_zero, List.set_cons_succ]
  refine held_take (i := 1) (d := 29) (v := .agg #[.int .i64 b0, .int .i64 b1, .int .i64 b2, .int .i64 b3]) rfl rfl (by kernel_rfl) (by kernel_rfl) (by kernel_rfl) (fun _ _ _ h => h) (by rfl) (fun W hS => by obtain ⟨g0, g1, g2, g3⟩ := (HY4.out.go hS).cells; go_simp) hHeld ?_
  simp only [Act.put, List.setIfInBounds_toArray, List.set_cons_zero, List.set_cons_succ]
  refine held_take (i := 2) (d := 30) (v := .bool false) rfl rfl (by kernel_rfl) (by kernel_rfl) (by kernel_rfl) (fun _ _ _ h => h) (by rfl) (fun W _ => by go_simp) hHeld ?_
  simp only [Act.put, List.setIfInBounds_toArray, List.set_cons_zero, List.set_cons_succ]
  refine held_take (i := 3) (d := 31) (v := .bool false) rfl rfl (by kernel_rfl) (by kernel_rfl) (by kernel_rfl) (fun _ _ _ h => h) (by rfl) (fun W _ => run_move_is (.tmp 30) rfl rfl W) hHeld ?_
  simp only [Act.put, List.setIfInBounds_toArray, List.set_cons_zero, List.set_cons_succ]
  refine held_take (i := 4) (d := 32) (v := .bool f) rfl rfl (by kernel_rfl) (by kernel_rfl) (by kernel_rfl) (fun _ _ _ h => h) (by rfl) (fun W _ => run_move_is (.tmp 10) rfl rfl W) hHeld ?_
  simp only [Act.put, List.setIfInBounds_toArray, List.set_cons_zero, List.set_cons_succ]
  refine held_take (i := 5) (d := 33) (v := .bool f) rfl rfl (by kernel_rfl) (by kernel_rfl) (by kernel_rfl) (fun _ _ _ h => h) (by rfl) (fun W _ => run_move_is (.tmp 12) rfl rfl W) hHeld ?_
  simp only [Act.put, List.setIfInBounds_toArray, List.set_cons_zero, List.set_cons_succ]
  refine held_take (i := 6) (d := 34) (v := .bool false) rfl rfl (by kernel_rfl) (by kernel_rfl) (by kernel_rfl) (fun _ _ _ h => h) (by rfl) (fun W _ => by have e := bne_self_eq_false f; go_simp) hHeld ?_
  simp only [Act.put, List.setIfInBounds_toArray, List.set_cons_zero, List.set_cons_succ]
  refine held_take (i := 7) (d := 35) (v := .bool false) rfl rfl (by kernel_rfl) (by kernel_rfl) (by kernel_rfl) (fun _ _ _ h => h) (by rfl) (fun W _ => by go_simp) hHeld ?_
  simp only [Act.put, List.setIfInBounds_toArray, List.set_cons_zero, List.set_cons_succ]
  refine held_take (i := 8) (d := 36) (v := .bool false) rfl rfl (by kernel_rfl) (by kernel_rfl) (by kernel_rfl) (fun _ _ _ h => h) (by rfl) (fun W _ => run_move_is (.tmp 35) rfl rfl W) hHeld ?_
  simp only [Act.put, List.setIfInBounds_toArray, List.set_cons_zero, List.set_cons_succ]
  refine held_take (i := 9) (d := 37) (v := .pointer (some ⟨p, 0, none⟩)) rfl rfl (by kernel_rfl) (by kernel_rfl) (by kernel_rfl) (fun _ _ _ h => h) (by rfl) (fun W _ => run_move_is (.tmp 0) rfl rfl W) hHeld ?_
  simp only [Act.put, List.setIfInBounds_toArray, List.set_cons_zero, List.set_cons_succ]
  refine held_take (i := 10) (d := 38) (v := .int .i64 o) rfl rfl (by kernel_rfl) (by kernel_rfl) (by kernel_rfl) (fun _ _ _ h => h) (by rfl) (fun W _ => run_move_is (.tmp 2) rfl rfl W) hHeld ?_
  simp only [Act.put, List.setIfInBounds_toArray, List.set_cons_zero, List.set_cons_succ]
  refine held_take (i := 12) (d := 40) (v := .pointer (some ⟨m, 0, none⟩)) rfl rfl (by kernel_rfl) (by kernel_rfl) (by kernel_rfl) (fun _ _ _ h => h) (by rfl) (fun W _ => run_move_is (.tmp 1) rfl rfl W) hHeld ?_
  simp only [Act.put, List.setIfInBounds_toArray, List.set_cons_zero, List.set_cons_succ]
  refine held_take (i := 13) (d := 41) (v := .int .i64 o) rfl rfl (by kernel_rfl) (by kernel_rfl) (by kernel_rfl) (fun _ _ _ h => h) (by rfl) (fun W _ => run_move_is (.tmp 2) rfl rfl W) hHeld ?_
  simp only [Act.put, List.setIfInBounds_toArray, List.set_cons_zero, List.set_cons_succ]
  have HCL := Lib.hid (of_any (HQ.out _ (Below.then HB4.out HB5.out (Nat.le_refl _))) ho (by have := HNL.out; omega))
  refine held_one (i := 11) (by kernel_rfl) ?_
  refine held_callX (d := 39) rfl rfl (by rfl) rfl (by kernel_rfl) Try.func26 (by kernel_rfl) HCL.out ?_
  rintro e w6 ⟨v6, rfl, ho6, hb6⟩
  obtain ⟨A6, n6, c6, rfl, _⟩ := ho6.shape
  refine ⟨_, rfl, ?_⟩
  have HO6 := Lib.hid ho6
  clear ho6
  have HB6 : Hid (Below w4.heap.size w4 w6) := Lib.hid (Below.then HB5.out hb6 (Nat.le_refl _))
  clear hHeld hb6 HCL
  have hHeld := HB6.out
  refine ⟨hHeld, ?_⟩
  simp only [Act.put, List.setIfInBounds_toArray, List.set_cons_zero, List.set_cons_succ]
  have HCL := Lib.hid (ofR_any (o := o) (HR.out _ (Below.then HB4.out HB6.out (Nat.le_refl _))) HNL.out)
  refine held_one (i := 14) (by kernel_rfl) ?_
  refine held_callX (d := 42) rfl rfl (by rfl) rfl (by kernel_rfl) Try.func30 (by kernel_rfl) HCL.out ?_
  rintro e w7 ⟨v7, rfl, ho7, hb7⟩
  obtain ⟨A7, n7, c7, rfl, hx7⟩ := ho7.shape
  obtain ⟨_, _, _, e6, hx6⟩ := (HO6.out.below hb7).shape
  cases e6
  have HS7 := Lib.hid (sameB_any A6 A7 n6 n7 c6 c7 (ofL o L) w7 hx6 hx7)
  refine ⟨_, rfl, ?_⟩
  clear ho7 hx7 hx6 HO6
  have HB7 : Hid (Below w4.heap.size w4 w7) := Lib.hid (Below.then HB6.out hb7 (Nat.le_refl _))
  clear hHeld hb7 HCL
  have hHeld := HB7.out
  refine ⟨hHeld, ?_⟩
  simp only [Act.put, List.setIfInBounds_toArray, List.set_cons_zero, List.set_cons_succ]
  have HCL := Lib.hid (HS7.out)
  refine held_one (i := 15) (by kernel_rfl) ?_
  refine held_callX (d := 43) rfl rfl (by rfl) rfl (by kernel_rfl) Try.func22 (by kernel_rfl) HCL.out ?_
  rintro e w8 ⟨rfl, hb8⟩
  refine ⟨_, rfl, ?_⟩
  have HB8 : Hid (Below w4.heap.size w4 w8) := Lib.hid (Below.then HB7.out hb8 (Nat.le_refl _))
  clear HS7
  clear hHeld hb8 HCL
  have hHeld := HB8.out
  refine ⟨hHeld, ?_⟩
  simp only [Act.put, List.setIfInBounds_toArray, List.set_cons_zero, List.set_cons_succ]
  refine held_take (i := 16) (d := 44) (v := .bool false) rfl rfl (by kernel_rfl) (by kernel_rfl) (by kernel_rfl) (fun _ _ _ h => h) (by rfl) (fun W _ => by go_simp) hHeld ?_
  simp only [Act.put, List.setIfInBounds_toArray, List.set_cons_zero, List.set_cons_succ]
  refine held_take (i := 17) (d := 45) (v := .bool false) rfl rfl (by kernel_rfl) (by kernel_rfl) (by kernel_rfl) (fun _ _ _ h => h) (by rfl) (fun W _ => by go_simp) hHeld ?_
  simp only [Act.put, List.setIfInBounds_toArray, List.set_cons_zero, List.set_cons_succ]
  refine held_take (i := 18) (d := 46) (v := .bool false) rfl rfl (by kernel_rfl) (by kernel_rfl) (by kernel_rfl) (fun _ _ _ h => h) (by rfl) (fun W _ => run_move_is (.tmp 45) rfl rfl W) hHeld ?_
  simp only [Act.put, List.setIfInBounds_toArray, List.set_cons_zero, List.set_cons_succ]
  refine held_take (i := 19) (d := 47) (v := .pointer (some ⟨p, 0, none⟩)) rfl rfl (by kernel_rfl) (by kernel_rfl) (by kernel_rfl) (fun _ _ _ h => h) (by rfl) (fun W _ => run_move_is (.tmp 0) rfl rfl W) hHeld ?_
  simp only [Act.put, List.setIfInBounds_toArray, List.set_cons_zero, List.set_cons_succ]
  refine held_take (i := 20) (d := 48) (v := .int .i64 h) rfl rfl (by kernel_rfl) (by kernel_rfl) (by kernel_rfl) (fun _ _ _ h => h) (by rfl) (fun W _ => run_move_is (.tmp 3) rfl rfl W) hHeld ?_
  simp only [Act.put, List.setIfInBounds_toArray, List.set_cons_zero, List.set_cons_succ]
  refine held_take (i := 22) (d := 50) (v := .pointer (some ⟨m, 0, none⟩)) rfl rfl (by kernel_rfl) (by kernel_rfl) (by kernel_rfl) (fun _ _ _ h => h) (by rfl) (fun W _ => run_move_is (.tmp 1) rfl rfl W) hHeld ?_
  simp only [Act.put, List.setIfInBounds_toArray, List.set_cons_zero, List.set_cons_succ]
  refine held_take (i := 23) (d := 51) (v := .int .i64 h) rfl rfl (by kernel_rfl) (by kernel_rfl) (by kernel_rfl) (fun _ _ _ h => h) (by rfl) (fun W _ => run_move_is (.tmp 3) rfl rfl W) hHeld ?_
  simp only [Act.put, List.setIfInBounds_toArray, List.set_cons_zero, List.set_cons_succ]
  have HCL := Lib.hid (held_any (h := h) (HQ.out _ (Below.then HB4.out HB8.out (Nat.le_refl _))) HW.out.srt HW.out.ri (by have := HNL.out; omega))
  refine held_one (i := 21) (by kernel_rfl) ?_
  refine held_callX (d := 49) rfl rfl (by rfl) rfl (by kernel_rfl) Try.func28 (by kernel_rfl) HCL.out ?_
  rintro e w9 ⟨rfl, hb9⟩
  refine ⟨_, rfl, ?_⟩
  have HB9 : Hid (Below w4.heap.size w4 w9) := Lib.hid (Below.then HB8.out hb9 (Nat.le_refl _))
  clear hHeld hb9 HCL
  have hHeld := HB9.out
  refine ⟨hHeld, ?_⟩
  simp only [Act.put, List.setIfInBounds_toArray, List.set_cons_zero, List.set_cons_succ]
  have HCL := Lib.hid (heldR_any (h := h) (HR.out _ (Below.then HB4.out HB9.out (Nat.le_refl _))) HNL.out)
  refine held_one (i := 24) (by kernel_rfl) ?_
  refine held_callX (d := 52) rfl rfl (by rfl) rfl (by kernel_rfl) Try.func31 (by kernel_rfl) HCL.out ?_
  rintro e w10 ⟨rfl, rfl⟩
  refine ⟨_, rfl, ?_⟩
  clear HCL
  refine ⟨hHeld, ?_⟩
  simp only [Act.put, List.setIfInBounds_toArray, List.set_cons_zero, List.set_cons_succ]
  refine held_take (i := 25) (d := 53) (v := .bool false) rfl rfl (by kernel_rfl) (by kernel_rfl) (by kernel_rfl) (fun _ _ _ h => h) (by rfl) (fun W _ => by go_simp) hHeld ?_
  simp only [Act.put, List.setIfInBounds_toArray, List.set_cons_zero, List.set_cons_succ]
  refine held_take (i := 26) (d := 54) (v := .bool false) rfl rfl (by kernel_rfl) (by kernel_rfl) (by kernel_rfl) (fun _ _ _ h => h) (by rfl) (fun W _ => by go_simp) hHeld ?_
  simp only [Act.put, List.setIfInBounds_toArray, List.set_cons_zero, List.set_cons_succ]
  refine held_take (i := 27) (d := 55) (v := .bool false) rfl rfl (by kernel_rfl) (by kernel_rfl) (by kernel_rfl) (fun _ _ _ h => h) (by rfl) (fun W _ => run_move_is (.tmp 54) rfl rfl W) hHeld ?_
  simp only [Act.put, List.setIfInBounds_toArray, List.set_cons_zero, List.set_cons_succ]
  refine held_take (i := 28) (d := 56) (v := .pointer (some ⟨p, 0, none⟩)) rfl rfl (by kernel_rfl) (by kernel_rfl) (by kernel_rfl) (fun _ _ _ h => h) (by rfl) (fun W _ => run_move_is (.tmp 0) rfl rfl W) hHeld ?_
  simp only [Act.put, List.setIfInBounds_toArray, List.set_cons_zero, List.set_cons_succ]
  refine held_take (i := 30) (d := 58) (v := .pointer (some ⟨m, 0, none⟩)) rfl rfl (by kernel_rfl) (by kernel_rfl) (by kernel_rfl) (fun _ _ _ h => h) (by rfl) (fun W _ => run_move_is (.tmp 1) rfl rfl W) hHeld ?_
  simp only [Act.put, List.setIfInBounds_toArray, List.set_cons_zero, List.set_cons_succ]
  refine held_take (i := 31) (d := 59) (v := .pointer (some ⟨m, 0, none⟩)) rfl rfl (by kernel_rfl) (by kernel_rfl) (by kernel_rfl) (fun _ _ _ h => h) (by rfl) (fun W _ => by go_simp) hHeld ?_
  simp only [Act.put, List.setIfInBounds_toArray, List.set_cons_zero, List.set_cons_succ]
  refine held_take (i := 32) (d := 60) (v := .pointer (some ⟨m, 0, none⟩)) rfl rfl (by kernel_rfl) (by kernel_rfl) (by kernel_rfl) (fun _ _ _ h => h) (by rfl) (fun W _ => by go_simp) hHeld ?_
  simp only [Act.put, List.setIfInBounds_toArray, List.set_cons_zero, List.set_cons_succ]
  obtain ⟨A0, n0, cap0, k0, hk0⟩ := HR.out _ HB4.out
  have HK0 := Lib.hid hk0
  clear hk0
  refine held_take (i := 33) (d := 61) (v := .slice A0 n0 cap0) rfl rfl (by kernel_rfl) (by kernel_rfl) (by kernel_rfl) (fun _ _ _ h => h) (by rfl) (fun W hS => by have g0 := (hS.cell (p := ⟨m, 0, none⟩) (lt_of_some k0)).trans k0; go_simp) hHeld ?_
  simp only [Act.put, List.setIfInBounds_toArray, List.set_cons_zero, List.set_cons_succ]
  have HCL := Lib.hid (listedL_any (some ⟨p, 0, none⟩) L _ (by have := HNL.out; omega) (fun W hb => all_any (HQ.out W (Below.then (Below.then HB4.out HB9.out (Nat.le_refl _)) hb (Nat.le_refl _))) HW.out.srt HW.out.ri HNL.out))
  refine held_one (i := 29) (by kernel_rfl) ?_
  refine held_callX (d := 57) rfl rfl (by rfl) rfl (by kernel_rfl) Try.func25 (by kernel_rfl) HCL.out ?_
  rintro e w11 ⟨v11, rfl, ho11, hb11⟩
  obtain ⟨A11, n11, c11, rfl, hx11⟩ := ho11.shape
  refine ⟨_, rfl, ?_⟩
  have HX11 := Lib.hid hx11
  clear ho11 hx11
  have HB11 : Hid (Below w4.heap.size w4 w11) := Lib.hid (Below.then HB9.out hb11 (Nat.le_refl _))
  clear hHeld hb11 HCL
  have hHeld := HB11.out
  refine ⟨hHeld, ?_⟩
  simp only [Act.put, List.setIfInBounds_toArray, List.set_cons_zero, List.set_cons_succ]
  have HCL := Lib.hid (sameB_any A11 A0 n11 n0 c11 cap0 L w11 HX11.out (HK0.out.go HB11.out))
  refine held_one (i := 34) (by kernel_rfl) ?_
  refine held_callX (d := 62) rfl rfl (by rfl) rfl (by kernel_rfl) Try.func22 (by kernel_rfl) HCL.out ?_
  rintro e w12 ⟨rfl, hb12⟩
  refine ⟨_, rfl, ?_⟩
  have HB12 : Hid (Below w4.heap.size w4 w12) := Lib.hid (Below.then HB11.out hb12 (Nat.le_refl _))
  clear hHeld hb12 HCL
  have hHeld := HB12.out
  refine ⟨hHeld, ?_⟩
  simp only [Act.put, List.setIfInBounds_toArray, List.set_cons_zero, List.set_cons_succ]
  refine held_take (i := 35) (d := 63) (v := .bool false) rfl rfl (by kernel_rfl) (by kernel_rfl) (by kernel_rfl) (fun _ _ _ h => h) (by rfl) (fun W _ => by go_simp) hHeld ?_
  simp only [Act.put, List.setIfInBounds_toArray, List.set_cons_zero, List.set_cons_succ]
  refine held_take (i := 36) (d := 64) (v := .bool false) rfl rfl (by kernel_rfl) (by kernel_rfl) (by kernel_rfl) (fun _ _ _ h => h) (by rfl) (fun W _ => by go_simp) hHeld ?_
  simp only [Act.put, List.setIfInBounds_toArray, List.set_cons_zero, List.set_cons_succ]
  refine wpAnyH_done (by kernel_rfl) ?_ _
  clear hHeld
  have HA1 := Lib.hid (fun W (hb : Below w4.heap.size w4 W) (b : Bool) (a : Int) => access_any (p := h) b a (HQ.out W (Below.then HB4.out hb (Nat.le_refl _))) ho HW.out.srt (by have := HNL.out; omega))
  have HA2 := Lib.hid (fun W (hb : Below w4.heap.size w4 W) (b : Bool) (a : Int) => accR_any (o := o) (pl := h) b a (HR.out W (Below.then HB4.out hb (Nat.le_refl _))) HW.out hN)
  clear HB5 HB6 HB7 HB8 HB9 HB11 HX11 HK0 k0 heq HX4 HY4
  go_wp2
  go_loopw [13] (fun kv wr => ∃ (i : Nat), i ≤ 10 ∧ kv = .int .i64 i ∧ Hid (Below w4.heap.size w4 wr)) (fun kv _ => 10 - (intOf kv).toNat)
  case atStart => exact ⟨0, by omega, rfl, HB12⟩
  case round =>
    obtain ⟨i, hi, rfl, hh⟩ := hrel
    by_cases hin : i < 10
    · have hi1 : (i : Int) < 10 := by omega
      have hi0 : (0 : Int) ≤ (i : Int) := by omega
      have HB := hh
      clear hh
      go_wp2_with fail
      refine (HA1.out wr HB.out _ _).mono ?_
      rintro e w13 ⟨rfl, hb13⟩
      have HB13 := Lib.hid (Below.then HB.out hb13 (Nat.le_refl _))
      clear hb13
      go_wp2_with fail
      refine (HA2.out w13 HB13.out _ _).mono ?_
      rintro e w14 ⟨rfl, hb14⟩
      have HB14 := Lib.hid (Below.then HB13.out hb14 (Nat.le_refl _))
      clear hb14
      go_wp2
      go_roundw
      case rel => exact ⟨i + 1, by omega, by go_num, HB14⟩
      case measure => simp [intOf]; omega
    · have hi1 : ¬ (i : Int) < 10 := by omega
      have HB := Lib.hid (Below.then HB4.out hh.out (Nat.le_refl _))
      clear hh
      go_wp2
      go_ret
      exact ⟨rfl, HB.out⟩
end Go.Proofs.Ytmmlelmkgnhofaa
