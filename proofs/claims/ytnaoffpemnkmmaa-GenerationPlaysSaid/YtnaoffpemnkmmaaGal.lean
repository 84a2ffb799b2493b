/-
  Contract of the law's comparison of slots with their model, over the bundle of the landed contracts. Conditions: at most 4096 slots.
-/
import Derived.Test.YtnaoffpemnkmmaaGpc
import Derived.Test.YtnaoffpemnkmmaaStx
namespace Go.Proofs.Ytnaoffpemnkmmaa
open Go.ChangeShapes Go.WideShapes Go.RowKit
set_option linter.unusedVariables false
set_option linter.unusedSimpArgs false
set_option maxHeartbeats 8000000
set_option maxRecDepth 100000

theorem alike12_any {Sl : World → (Nat → Nat) → Nat → Nat → Gs → Prop} (C : Pc Sl) (w : World) (c c' : Nat → Nat) (kp p km m N : Nat) (s : Gs) (hS : Sl w c kp p s) (hM : Mgs w c' km m s) (hW : s.Wf N) (hN : N ≤ 4096) :
    Calls Try.prog 12 #[.pointer (some ⟨p, 0, none⟩), .pointer (some ⟨m, 0, none⟩)] w fun e w' => e = .returned (.bool true) ∧ Below w.heap.size w w' := by
  have HC := Lib.hid C
  have HS := Lib.hid hS
  have HM := Lib.hid hM
  have HW := Lib.hid hW
  have HN4 := Lib.hid hN
  have HGL : Hid (s.gen.length = s.live.length) := Lib.hid (by rw [hW.gl, hW.ll])
  obtain ⟨A1, n1, c1, A2, n2, c2, A3, n3, c3, _, q1, _, q3, q4, k1, _, k3⟩ := hM.cells
  have HK3 := Lib.hid k3
  obtain rfl : n1 = N := by have := k1.len; have := hW.gl; omega
  have hm := hM.lt
  clear C hS hM hW k1 k3
  go_enter Try.func12, Try.ntmps12
  go_wp2
  go_loopw [5] (fun kv wr => ∃ (i : Nat) (x : Int), i ≤ n1 + 2 ∧ kv = .int .i64 x ∧ Hid (x = (i : Int) - 1) ∧ Hid (Below w.heap.size w wr)) (fun kv _ => (n1 + 2) - (intOf kv + 1).toNat)
  case atStart => exact ⟨0, -1, by omega, rfl, Lib.hid (by omega), Lib.hid (Below.refl _ _)⟩
  case round =>
    obtain ⟨i, x, hi, rfl, hxi, hh⟩ := hrel
    have r1 : wr.cell? ⟨m, 1, none⟩ = some (.slice A1 n1 c1) := (hh.out.cell (p := ⟨m, 1, none⟩) hm).trans q1
    by_cases hin : i < n1 + 2
    · have hx1 : x ≤ (n1 : Int) := by have := hxi.out; omega
      have hx2 : -1 ≤ x := by have := hxi.out; omega
      have HL := Lib.hid (HC.out.live wr c kp p n1 s x (HC.out.go HS.out hh.out) HW.out)
      go_wp2_with fail
      refine HL.out.mono ?_
      rintro e w3 ⟨rfl, hb3⟩
      have HB3 := Lib.hid (Below.then hh.out hb3 (Nat.le_refl _))
      have HO := Lib.hid (ofM_any w3 c' km m s x (HM.out.go HB3.out) HGL.out)
      generalize s.of x = ov at *
      obtain ⟨o1, o2⟩ := ov
      simp only at HO ⊢
      clear hb3 HL r1
      go_wp2_with fail
      refine HO.out.mono ?_
      rintro e w4 ⟨rfl, rfl⟩
      clear HO
      go_wp2
      go_roundw
      case rel => exact ⟨i + 1, x + 1, by omega, by go_num, Lib.hid (by have := hxi.out; omega), HB3⟩
      case measure => have := hxi.out; simp [intOf]; omega
    · have hx1 : ¬ x ≤ (n1 : Int) := by have := hxi.out; omega
      have HB := Lib.hid hh.out
      have HSr := Lib.hid (HC.out.go HS.out hh.out)
      have hmr : m < wr.heap.size := by have := hh.out.size; omega
      have q3r : wr.cell? ⟨m, 3, none⟩ = some (.slice A3 n3 c3) := (hh.out.cell (p := ⟨m, 3, none⟩) hm).trans q3
      have q4r : wr.cell? ⟨m, 4, none⟩ = some (.int .i64 s.gone) := (hh.out.cell (p := ⟨m, 4, none⟩) hm).trans q4
      have HKr := Lib.hid (HK3.out.go hh.out)
      have HSS : Hid (∀ W, Below wr.heap.size wr W → W.cell? ⟨m, 1, none⟩ = some (.slice A1 n1 c1) ∧ W.cell? ⟨m, 3, none⟩ = some (.slice A3 n3 c3) ∧ W.cell? ⟨m, 4, none⟩ = some (.int .i64 s.gone)) := Lib.hid (fun W h => ⟨(h.cell (p := ⟨m, 1, none⟩) hmr).trans r1, (h.cell (p := ⟨m, 3, none⟩) hmr).trans q3r, (h.cell (p := ⟨m, 4, none⟩) hmr).trans q4r⟩)
      have hd0 : Below wr.heap.size wr wr.drew := below_drewN (Below.refl _ _) 1
      have HD0 := Lib.hid hd0
      clear hd0 hh q1 q3 q4 q3r q4r
      go_wp2_with fail
      refine wp_region_headed 26 (fun W => W.cell? ⟨m, 1, none⟩ = some (.slice A1 n1 c1) ∧ W.cell? ⟨m, 3, none⟩ = some (.slice A3 n3 c3) ∧ W.cell? ⟨m, 4, none⟩ = some (.int .i64 s.gone)) (by kernel_rfl) (by kernel_rfl) ?_
      simp only [List.take_succ_cons, List.take_zero, List.drop_succ_cons, List.drop_zero]
      rw [show Array.replicate 26 false = #[false, false, false, false, false, false, false, false, false, false, false, false, false, false, false, false, false, false, false, false, false, false, false, false, false, false] from rfl]
      have hHeld := HSS.out _ HD0.out
      refine held_take (i := 0) (d := 39) (v := .pointer (some ⟨p, 0, none⟩)) rfl rfl (by kernel_rfl) (by kernel_rfl) (by kernel_rfl) (fun _ _ _ h => h) (by rfl) (fun W _ => run_move_is (.tmp 0) rfl rfl W) hHeld ?_
      simp only [Act.put, List.setIfInBounds_toArray, List.set_cons_zero, List.set_cons_succ]
      refine held_take (i := 2) (d := 41) (v := .pointer (some ⟨m, 0, none⟩)) rfl rfl (by kernel_rfl) (by kernel_rfl) (by kernel_rfl) (fun _ _ _ h => h) (by rfl) (fun W _ => run_move_is (.tmp 1) rfl rfl W) hHeld ?_
      simp only [Act.put, List.setIfInBounds_toArray, List.set_cons_zero, List.set_cons_succ]
      refine held_take (i := 3) (d := 42) (v := .pointer (some ⟨m, 0, none⟩)) rfl rfl (by kernel_rfl) (by kernel_rfl) (by kernel_rfl) (fun _ _ _ h => h) (by rfl) (fun W _ => by go_simp) hHeld ?_
      simp only [Act.put, List.setIfInBounds_toArray, List.set_cons_zero, List.set_cons_succ]
      refine held_take (i := 4) (d := 43) (v := .pointer (some ⟨m, 1, none⟩)) rfl rfl (by kernel_rfl) (by kernel_rfl) (by kernel_rfl) (fun _ _ _ h => h) (by rfl) (fun W _ => by go_simp) hHeld ?_
      simp only [Act.put, List.setIfInBounds_toArray, List.set_cons_zero, List.set_cons_succ]
      refine held_take (i := 5) (d := 44) (v := .slice A1 n1 c1) rfl rfl (by kernel_rfl) (by kernel_rfl) (by kernel_rfl) (fun _ _ _ h => h) (by rfl) (fun W hS => by have h1 := hS.1; go_simp) hHeld ?_
      simp only [Act.put, List.setIfInBounds_toArray, List.set_cons_zero, List.set_cons_succ]
      refine held_take (i := 6) (d := 45) (v := .int .i64 (n1 : Int)) rfl rfl (by kernel_rfl) (by kernel_rfl) (by kernel_rfl) (fun _ _ _ h => h) (by rfl) (fun W _ => by go_simp) hHeld ?_
      simp only [Act.put, List.setIfInBounds_toArray, List.set_cons_zero, List.set_cons_succ]
      have HZ := Lib.hid (HC.out.size wr.drew c kp p n1 s (HC.out.go HSr.out HD0.out) HW.out)
      refine held_one (i := 1) (by kernel_rfl) ?_
      refine held_callX (d := 40) rfl rfl (by rfl) rfl (by kernel_rfl) Try.func17 (by kernel_rfl) HZ.out ?_
      rintro e w5 ⟨rfl, hb5⟩
      refine ⟨_, rfl, ?_⟩
      have HD5 := Lib.hid (Below.then HD0.out hb5 (Nat.le_refl _))
      clear hHeld hb5 HZ
      have hHeld := HSS.out _ HD5.out
      refine ⟨hHeld, ?_⟩
      simp only [Act.put, List.setIfInBounds_toArray, List.set_cons_zero, List.set_cons_succ]
      refine held_take (i := 7) (d := 46) (v := .bool true) rfl rfl (by kernel_rfl) (by kernel_rfl) (by kernel_rfl) (fun _ _ _ h => h) (by rfl) (fun W _ => by go_simp) hHeld ?_
      simp only [Act.put, List.setIfInBounds_toArray, List.set_cons_zero, List.set_cons_succ]
      refine held_take (i := 8) (d := 47) (v := .bool true) rfl rfl (by kernel_rfl) (by kernel_rfl) (by kernel_rfl) (fun _ _ _ h => h) (by rfl) (fun W _ => run_move_is (.tmp 46) rfl rfl W) hHeld ?_
      simp only [Act.put, List.setIfInBounds_toArray, List.set_cons_zero, List.set_cons_succ]
      refine held_take (i := 9) (d := 48) (v := .pointer (some ⟨p, 0, none⟩)) rfl rfl (by kernel_rfl) (by kernel_rfl) (by kernel_rfl) (fun _ _ _ h => h) (by rfl) (fun W _ => run_move_is (.tmp 0) rfl rfl W) hHeld ?_
      simp only [Act.put, List.setIfInBounds_toArray, List.set_cons_zero, List.set_cons_succ]
      refine held_take (i := 11) (d := 50) (v := .pointer (some ⟨m, 0, none⟩)) rfl rfl (by kernel_rfl) (by kernel_rfl) (by kernel_rfl) (fun _ _ _ h => h) (by rfl) (fun W _ => run_move_is (.tmp 1) rfl rfl W) hHeld ?_
      simp only [Act.put, List.setIfInBounds_toArray, List.set_cons_zero, List.set_cons_succ]
      refine held_take (i := 12) (d := 51) (v := .pointer (some ⟨m, 0, none⟩)) rfl rfl (by kernel_rfl) (by kernel_rfl) (by kernel_rfl) (fun _ _ _ h => h) (by rfl) (fun W _ => by go_simp) hHeld ?_
      simp only [Act.put, List.setIfInBounds_toArray, List.set_cons_zero, List.set_cons_succ]
      refine held_take (i := 13) (d := 52) (v := .pointer (some ⟨m, 4, none⟩)) rfl rfl (by kernel_rfl) (by kernel_rfl) (by kernel_rfl) (fun _ _ _ h => h) (by rfl) (fun W _ => by go_simp) hHeld ?_
      simp only [Act.put, List.setIfInBounds_toArray, List.set_cons_zero, List.set_cons_succ]
      refine held_take (i := 14) (d := 53) (v := .int .i64 s.gone) rfl rfl (by kernel_rfl) (by kernel_rfl) (by kernel_rfl) (fun _ _ _ h => h) (by rfl) (fun W hS => by have h1 := hS.2.2; go_simp) hHeld ?_
      simp only [Act.put, List.setIfInBounds_toArray, List.set_cons_zero, List.set_cons_succ]
      have HRT := Lib.hid (HC.out.retired w5 c kp p n1 s (HC.out.go HSr.out HD5.out) HW.out HN4.out)
      refine held_one (i := 10) (by kernel_rfl) ?_
      refine held_callX (d := 49) rfl rfl (by rfl) rfl (by kernel_rfl) Try.func18 (by kernel_rfl) HRT.out ?_
      rintro e w6 ⟨rfl, hb6⟩
      refine ⟨_, rfl, ?_⟩
      have HD6 := Lib.hid (Below.then HD5.out hb6 (Nat.le_refl _))
      clear hHeld hb6 HRT
      have hHeld := HSS.out _ HD6.out
      refine ⟨hHeld, ?_⟩
      simp only [Act.put, List.setIfInBounds_toArray, List.set_cons_zero, List.set_cons_succ]
      refine held_take (i := 15) (d := 54) (v := .bool true) rfl rfl (by kernel_rfl) (by kernel_rfl) (by kernel_rfl) (fun _ _ _ h => h) (by rfl) (fun W _ => by go_simp) hHeld ?_
      simp only [Act.put, List.setIfInBounds_toArray, List.set_cons_zero, List.set_cons_succ]
      refine held_take (i := 16) (d := 55) (v := .bool true) rfl rfl (by kernel_rfl) (by kernel_rfl) (by kernel_rfl) (fun _ _ _ h => h) (by rfl) (fun W _ => by go_simp) hHeld ?_
      simp only [Act.put, List.setIfInBounds_toArray, List.set_cons_zero, List.set_cons_succ]
      refine held_take (i := 17) (d := 56) (v := .bool true) rfl rfl (by kernel_rfl) (by kernel_rfl) (by kernel_rfl) (fun _ _ _ h => h) (by rfl) (fun W _ => run_move_is (.tmp 55) rfl rfl W) hHeld ?_
      simp only [Act.put, List.setIfInBounds_toArray, List.set_cons_zero, List.set_cons_succ]
      refine held_take (i := 18) (d := 57) (v := .pointer (some ⟨p, 0, none⟩)) rfl rfl (by kernel_rfl) (by kernel_rfl) (by kernel_rfl) (fun _ _ _ h => h) (by rfl) (fun W _ => run_move_is (.tmp 0) rfl rfl W) hHeld ?_
      simp only [Act.put, List.setIfInBounds_toArray, List.set_cons_zero, List.set_cons_succ]
      refine held_take (i := 20) (d := 59) (v := .pointer (some ⟨m, 0, none⟩)) rfl rfl (by kernel_rfl) (by kernel_rfl) (by kernel_rfl) (fun _ _ _ h => h) (by rfl) (fun W _ => run_move_is (.tmp 1) rfl rfl W) hHeld ?_
      simp only [Act.put, List.setIfInBounds_toArray, List.set_cons_zero, List.set_cons_succ]
      refine held_take (i := 21) (d := 60) (v := .pointer (some ⟨m, 0, none⟩)) rfl rfl (by kernel_rfl) (by kernel_rfl) (by kernel_rfl) (fun _ _ _ h => h) (by rfl) (fun W _ => by go_simp) hHeld ?_
      simp only [Act.put, List.setIfInBounds_toArray, List.set_cons_zero, List.set_cons_succ]
      refine held_take (i := 22) (d := 61) (v := .pointer (some ⟨m, 3, none⟩)) rfl rfl (by kernel_rfl) (by kernel_rfl) (by kernel_rfl) (fun _ _ _ h => h) (by rfl) (fun W _ => by go_simp) hHeld ?_
      simp only [Act.put, List.setIfInBounds_toArray, List.set_cons_zero, List.set_cons_succ]
      refine held_take (i := 23) (d := 62) (v := .slice A3 n3 c3) rfl rfl (by kernel_rfl) (by kernel_rfl) (by kernel_rfl) (fun _ _ _ h => h) (by rfl) (fun W hS => by have h1 := hS.2.1; go_simp) hHeld ?_
      simp only [Act.put, List.setIfInBounds_toArray, List.set_cons_zero, List.set_cons_succ]
      have HPL := Lib.hid (HC.out.pool w6 c kp p n1 s (HC.out.go HSr.out HD6.out) HW.out HN4.out)
      refine held_one (i := 19) (by kernel_rfl) ?_
      refine held_callX (d := 58) rfl rfl (by rfl) rfl (by kernel_rfl) Try.func19 (by kernel_rfl) HPL.out ?_
      rintro e w7 ⟨v7, rfl, ho7, hb7⟩
      obtain ⟨A7, n7, c7, rfl, hx7⟩ := ho7.shape
      refine ⟨_, rfl, ?_⟩
      have HD7 := Lib.hid (Below.then HD6.out hb7 (Nat.le_refl _))
      clear hHeld hb7 HPL ho7
      have hHeld := HSS.out _ HD7.out
      refine ⟨hHeld, ?_⟩
      simp only [Act.put, List.setIfInBounds_toArray, List.set_cons_zero, List.set_cons_succ]
      have HSI := Lib.hid (sameInts_any A7 A3 n7 n3 c7 c3 s.free s.free w7 hx7 (HKr.out.go HD7.out))
      rw [decide_eq_true rfl] at HSI
      refine held_one (i := 24) (by kernel_rfl) ?_
      refine held_callX (d := 63) rfl rfl (by rfl) rfl (by kernel_rfl) Try.func25 (by kernel_rfl) HSI.out ?_
      rintro e w8 ⟨rfl, hb8⟩
      refine ⟨_, rfl, ?_⟩
      have HD8 := Lib.hid (Below.then HD7.out hb8 (Nat.le_refl _))
      clear hHeld hb8 HSI
      have hHeld := HSS.out _ HD8.out
      refine ⟨hHeld, ?_⟩
      simp only [Act.put, List.setIfInBounds_toArray, List.set_cons_zero, List.set_cons_succ]
      refine held_take (i := 25) (d := 64) (v := .bool true) rfl rfl (by kernel_rfl) (by kernel_rfl) (by kernel_rfl) (fun _ _ _ h => h) (by rfl) (fun W _ => by go_simp) hHeld ?_
      simp only [Act.put, List.setIfInBounds_toArray, List.set_cons_zero, List.set_cons_succ]
      refine wpAnyH_done (by kernel_rfl) ?_ _
      simp only [atEnd]
      go_wp2
      go_ret
      exact ⟨rfl, Below.then HB.out HD8.out (Nat.le_refl _)⟩
end Go.Proofs.Ytnaoffpemnkmmaa
