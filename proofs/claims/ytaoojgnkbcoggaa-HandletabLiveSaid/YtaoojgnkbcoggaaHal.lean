/-
  Contracts of the landed table's Full, Retired and Pool, and of the law's comparison of a table with its model. Conditions: at most 4096 slots.
-/
import Derived.Test.YtaoojgnkbcoggaaHld
import Derived.Test.YtaoojgnkbcoggaaGsm
import Derived.Test.YtaoojgnkbcoggaaStx
namespace Go.Proofs.Ytaoojgnkbcoggaa
section
open Go.ChangeShapes Go.WideShapes Go.RowKit
set_option linter.unusedVariables false
set_option linter.unusedSimpArgs false
set_option maxHeartbeats 8000000
set_option maxRecDepth 100000

section
variable {w : World} {c : Nat → Nat} {k p N : Nat} {t : Ht}
theorem poolT_any (H : Htb w c k p t) (hW : t.Wf N) (hN : N ≤ 4096) : Calls Try.prog 27 #[.pointer (some ⟨p, 0, none⟩)] w (ClI w t.s.free) := by
  obtain ⟨A, n, cap, d, q, q0, q1, hk, hS⟩ := Inn.cells H
  have HG := Lib.hid (gens_any w c k p t.s t.pe q q0)
  have HP := Lib.hid (pc_landed.pool w d 1 q N t.s hS hW.gs hN)
  clear H hW hk hS q0 q1
  go_enter Try.func27, Try.ntmps27
  go_wp2_with fail
  refine HG.out.mono ?_
  rintro e w2 ⟨rfl, rfl⟩
  go_wp2_with fail
  refine HP.out.mono ?_
  rintro e w3 ⟨v, rfl, ho, hb⟩
  have HO := Lib.hid ho
  have HB := Lib.hid hb
  clear ho hb
  go_wp2
  go_ret
  exact ⟨_, rfl, HO.out, HB.out⟩
theorem retT_any (H : Htb w c k p t) (hW : t.Wf N) (hN : N ≤ 4096) : Calls Try.prog 26 #[.pointer (some ⟨p, 0, none⟩)] w fun e w' => e = .returned (.int .i64 t.s.gone) ∧ Below w.heap.size w w' := by
  obtain ⟨A, n, cap, d, q, q0, q1, hk, hS⟩ := Inn.cells H
  have HG := Lib.hid (gens_any w c k p t.s t.pe q q0)
  have HP := Lib.hid (pc_landed.retired w d 1 q N t.s hS hW.gs hN)
  clear H hW hk hS q0 q1
  go_enter Try.func26, Try.ntmps26
  go_wp2_with fail
  refine HG.out.mono ?_
  rintro e w2 ⟨rfl, rfl⟩
  go_wp2_with fail
  refine HP.out.mono ?_
  rintro e w3 ⟨rfl, hb⟩
  have HB := Lib.hid hb
  clear hb
  go_wp2
  go_ret
  exact ⟨rfl, HB.out⟩
theorem fullT_any (H : Htb w c k p t) (hW : t.Wf N) (hN : N ≤ 4096) : Calls Try.prog 25 #[.pointer (some ⟨p, 0, none⟩)] w fun e w' => e = .returned (.bool ((t.s.free.length : Int) == 0)) ∧ Below w.heap.size w w' := by
  have HP := Lib.hid (poolT_any H hW hN)
  clear H hW
  go_enter Try.func25, Try.ntmps25
  go_wp2_with fail
  refine HP.out.mono ?_
  rintro e w3 ⟨v, rfl, ho, hb⟩
  obtain ⟨A3, n3, c3, rfl, hx3⟩ := ho.shape
  have HL : Hid (n3 = t.s.free.length) := Lib.hid hx3.len.symm
  have HB := Lib.hid hb
  clear ho hb hx3
  go_wp2
  go_ret
  exact ⟨by rw [← HL.out]; rfl, HB.out⟩
end
end
section
open Go.ChangeShapes Go.WideShapes Go.RowKit
set_option linter.unusedVariables false
set_option linter.unusedSimpArgs false
set_option maxHeartbeats 8000000
set_option maxRecDepth 100000

theorem same_ext (f l : Int) (n : Nat) (w : World) : (Op.equalIn (n + 2) 42 (.agg #[.int .i64 f, .int .i64 l]) (.agg #[.int .i64 f, .int .i64 l])).run Try.prog w = .ok true w := by
  have u3 := Try.underlying3
  have a3 := Try.isAgg3
  have z3 := Try.sizeOf3
  rw [Op.equalIn]
  simp only [Sem.run_bind, run_underlying Try.underlying42, Result.andThen_ok]
  go_simp
theorem same_en (h o t f l : Int) (w : World) : (Op.equalIn 10000 44 (.agg #[.int .u64 h, .int .i64 o, .int .i64 t, .int .i64 f, .int .i64 l]) (.agg #[.int .u64 h, .int .i64 o, .int .i64 t, .int .i64 f, .int .i64 l])).run Try.prog w = .ok true w := by
  have u3 := Try.underlying3
  have a3 := Try.isAgg3
  have z3 := Try.sizeOf3
  have u4 := Try.underlying39
  have a4 := Try.isAgg39
  have z4 := Try.sizeOf39
  have u5 := Try.underlying42
  have a5 := Try.isAgg42
  have z5 := Try.sizeOf42
  have hE : ∀ W, (Op.equalIn 9999 42 (.agg #[.int .i64 f, .int .i64 l]) (.agg #[.int .i64 f, .int .i64 l])).run Try.prog W = .ok true W := fun W => same_ext f l 9997 W
  rw [show (10000 : Nat) = 9999 + 1 from rfl, Op.equalIn]
  simp only [Sem.run_bind, run_underlying Try.underlying44, Result.andThen_ok]
  go_simp
  done
end
section
open Go.ChangeShapes Go.WideShapes Go.RowKit
set_option linter.unusedVariables false
set_option linter.unusedSimpArgs false
set_option maxHeartbeats 8000000
set_option maxRecDepth 100000

theorem alike13_any (w : World) (c c' : Nat → Nat) (kp p km m N : Nat) (t : Ht) (hT : Htb w c kp p t) (hM : Hmb w c' km m t) (hW : t.Wf N) (hN : N ≤ 4096) :
    Calls Try.prog 13 #[.pointer (some ⟨p, 0, none⟩), .pointer (some ⟨m, 0, none⟩)] w fun e w' => e = .returned (.bool true) ∧ Below w.heap.size w w' := by
  have HT := Lib.hid hT
  have HM := Lib.hid hM
  have HW := Lib.hid hW
  have HL := Lib.hid (listedT_any w c kp p N t hT hW hN)
  obtain ⟨A, n, cap, d, q, q0, _, _, hS⟩ := Inn.cells hM
  obtain ⟨A1, n1, c1, A2, n2, c2, A3, n3, c3, _, _, _, s3, s4, _, _, k3⟩ := hS.cells
  have hlen : t.all.length ≤ 1000000 := by have := Ht.upto_len (t := t) (n := t.e.length); have := hW.el; unfold Ht.all; omega
  have HFL : Hid (n3 = t.s.free.length) := Lib.hid k3.len.symm
  have HK3 := Lib.hid k3
  have hm0 := lt_of_some q0
  have hm3 := lt_of_some s3
  have hm4 := lt_of_some s4
  clear hT hM hW hS k3
  go_enter Try.func13, Try.ntmps13
  go_wp2_with fail
  refine HL.out.mono ?_
  rintro e w1 ⟨v1, rfl, ho1, hb1⟩
  obtain ⟨A4, n4, c4, rfl, hx4⟩ := ho1.shape
  have HB1 := Lib.hid hb1
  have HM1 := Lib.hid (allM_any w1 c' km m N t (HM.out.go hb1) HW.out hN)
  have HX4 := Lib.hid hx4
  clear ho1 hb1 hx4 HL
  go_wp2_with fail
  refine HM1.out.mono ?_
  rintro e w2 ⟨v2, rfl, ho2, hb2⟩
  obtain ⟨A5, n5, c5, rfl, hx5⟩ := ho2.shape
  have hn4 : n4 = t.all.length := HX4.out.len.symm
  obtain rfl : n5 = n4 := by rw [hn4]; exact hx5.len.symm
  have HB2 := Lib.hid (Below.then HB1.out hb2 (Nat.le_refl _))
  have HX4' := Lib.hid (HX4.out.go hb2)
  have HX5 := Lib.hid hx5
  have hcap4 := HX4.out.cap
  have hsm4 := HX4.out.small
  have hcap5 := hx5.cap
  have hsm5 := hx5.small
  unfold maxLen at hsm4 hsm5
  have HLN := Lib.hid hn4
  clear ho2 hb2 hx5 HX4 HM1 hn4 HB1
  go_wp2
  go_loopw [7] (fun kv wr => ∃ (i : Nat), i ≤ n5 ∧ kv = .int .i64 i ∧ Hid (Below w2.heap.size w2 wr)) (fun kv _ => n5 - (intOf kv).toNat)
  case atStart => exact ⟨0, by omega, rfl, Lib.hid (Below.refl _ _)⟩
  case round =>
    obtain ⟨i, hi, rfl, hh⟩ := hrel
    by_cases hin : i < n5
    · have hi1 : (i : Int) < (n5 : Int) := by omega
      obtain ⟨b, o, x, hx, rfl, hb, g0, g1, g2, g3, g4⟩ := (HX4'.out.below hh.out).en_at hin
      obtain ⟨b', o', x', hx', rfl, hb', h0, h1, h2, h3, h4⟩ := (HX5.out.below hh.out).en_at hin
      obtain rfl : x = x' := by
        rw [hx] at hx'
        exact Option.some.inj hx'
      have heq := same_en x.h x.o x.t x.f x.l
      clear hx hx' hb hb'
      go_wp2
      go_quiet (fail)
      have HB3 := Lib.hid (Below.then hh.out (below_drewN (Below.refl wr.heap.size wr) nq) (Nat.le_refl _))
      clear hh g0 g1 g2 g3 g4 h0 h1 h2 h3 h4 heq
      go_wp2
      go_roundw
      case rel => exact ⟨i + 1, by omega, by go_num, HB3⟩
      case measure => simp [intOf]; omega
    · obtain rfl : i = n5 := by omega
      have hii : ¬ (i : Int) < (i : Int) := by omega
      have hbr := Below.then HB2.out hh.out (Nat.le_refl _)
      have HB := Lib.hid hbr
      have HTr := Lib.hid (HT.out.go hbr)
      have hr0 := (hbr.cell (p := ⟨m, 0, none⟩) hm0).trans q0
      have hr3 := (hbr.cell (p := ⟨q, 3, none⟩) hm3).trans s3
      have hr4 := (hbr.cell (p := ⟨q, 4, none⟩) hm4).trans s4
      have HKr := Lib.hid (HK3.out.go hbr)
      have HSS : Hid (∀ W, Below wr.heap.size wr W → W.cell? ⟨m, 0, none⟩ = some (.pointer (some ⟨q, 0, none⟩)) ∧ W.cell? ⟨q, 3, none⟩ = some (.slice A3 n3 c3) ∧ W.cell? ⟨q, 4, none⟩ = some (.int .i64 t.s.gone)) := Lib.hid (fun W h => ⟨(h.cell (p := ⟨m, 0, none⟩) (lt_of_some hr0)).trans hr0, (h.cell (p := ⟨q, 3, none⟩) (lt_of_some hr3)).trans hr3, (h.cell (p := ⟨q, 4, none⟩) (lt_of_some hr4)).trans hr4⟩)
      have hd0 : Below wr.heap.size wr wr.drew := below_drewN (Below.refl _ _) 1
      have HD0 := Lib.hid hd0
      clear hd0 hh hbr hr0 hr3 hr4 q0 s3 s4 HX4' HX5
      go_wp2_with fail
      refine wp_region_headed 36 (fun W => W.cell? ⟨m, 0, none⟩ = some (.pointer (some ⟨q, 0, none⟩)) ∧ W.cell? ⟨q, 3, none⟩ = some (.slice A3 n3 c3) ∧ W.cell? ⟨q, 4, none⟩ = some (.int .i64 t.s.gone)) (by kernel_rfl) (by kernel_rfl) ?_
      simp only [List.take_succ_cons, List.take_zero, List.drop_succ_cons, List.drop_zero]
      rw [show Array.replicate 36 false = #[false, false, false, false, false, false, false, false, false, false, false, false, false, false, false, false, false, false, false, false, false, false, false, false, false, false, false, false, false, false, false, false, false, false, false, false] from rfl]
      have hHeld := HSS.out _ HD0.out
      refine held_take (i := 0) (d := 32) (v := .pointer (some ⟨p, 0, none⟩)) rfl rfl (by kernel_rfl) (by kernel_rfl) (by kernel_rfl) (fun _ _ _ h => h) (by rfl) (fun W _ => run_move_is (.tmp 0) rfl rfl W) hHeld ?_
      simp only [Act.put, List.setIfInBounds_toArray, List.set_cons_zero, List.set_cons_succ]
      refine held_take (i := 2) (d := 34) (v := .pointer (some ⟨m, 0, none⟩)) rfl rfl (by kernel_rfl) (by kernel_rfl) (by kernel_rfl) (fun _ _ _ h => h) (by rfl) (fun W _ => run_move_is (.tmp 1) rfl rfl W) hHeld ?_
      simp only [Act.put, List.setIfInBounds_toArray, List.set_cons_zero, List.set_cons_succ]
      refine held_take (i := 3) (d := 35) (v := .pointer (some ⟨m, 0, none⟩)) rfl rfl (by kernel_rfl) (by kernel_rfl) (by kernel_rfl) (fun _ _ _ h => h) (by rfl) (fun W _ => by go_simp) hHeld ?_
      simp only [Act.put, List.setIfInBounds_toArray, List.set_cons_zero, List.set_cons_succ]
      refine held_take (i := 4) (d := 36) (v := .pointer (some ⟨m, 0, none⟩)) rfl rfl (by kernel_rfl) (by kernel_rfl) (by kernel_rfl) (fun _ _ _ h => h) (by rfl) (fun W _ => by go_simp) hHeld ?_
      simp only [Act.put, List.setIfInBounds_toArray, List.set_cons_zero, List.set_cons_succ]
      refine held_take (i := 5) (d := 37) (v := .pointer (some ⟨q, 0, none⟩)) rfl rfl (by kernel_rfl) (by kernel_rfl) (by kernel_rfl) (fun _ _ _ h => h) (by rfl) (fun W hS => by have h1 := hS.1; go_simp) hHeld ?_
      simp only [Act.put, List.setIfInBounds_toArray, List.set_cons_zero, List.set_cons_succ]
      refine held_take (i := 6) (d := 38) (v := .pointer (some ⟨q, 0, none⟩)) rfl rfl (by kernel_rfl) (by kernel_rfl) (by kernel_rfl) (fun _ _ _ h => h) (by rfl) (fun W _ => by go_simp) hHeld ?_
      simp only [Act.put, List.setIfInBounds_toArray, List.set_cons_zero, List.set_cons_succ]
      refine held_take (i := 7) (d := 39) (v := .pointer (some ⟨q, 3, none⟩)) rfl rfl (by kernel_rfl) (by kernel_rfl) (by kernel_rfl) (fun _ _ _ h => h) (by rfl) (fun W _ => by go_simp) hHeld ?_
      simp only [Act.put, List.setIfInBounds_toArray, List.set_cons_zero, List.set_cons_succ]
      refine held_take (i := 8) (d := 40) (v := .slice A3 n3 c3) rfl rfl (by kernel_rfl) (by kernel_rfl) (by kernel_rfl) (fun _ _ _ h => h) (by rfl) (fun W hS => by have h1 := hS.2.1; go_simp) hHeld ?_
      simp only [Act.put, List.setIfInBounds_toArray, List.set_cons_zero, List.set_cons_succ]
      refine held_take (i := 9) (d := 41) (v := .int .i64 (n3 : Int)) rfl rfl (by kernel_rfl) (by kernel_rfl) (by kernel_rfl) (fun _ _ _ h => h) (by rfl) (fun W _ => by go_simp) hHeld ?_
      simp only [Act.put, List.setIfInBounds_toArray, List.set_cons_zero, List.set_cons_succ]
      refine held_take (i := 10) (d := 42) (v := .bool ((n3 : Int) == 0)) rfl rfl (by kernel_rfl) (by kernel_rfl) (by kernel_rfl) (fun _ _ _ h => h) (by rfl) (fun W _ => by go_simp) hHeld ?_
      simp only [Act.put, List.setIfInBounds_toArray, List.set_cons_zero, List.set_cons_succ]
      have HF := Lib.hid (fullT_any (HTr.out.go HD0.out) HW.out hN)
      rw [← HFL.out] at HF
      refine held_one (i := 1) (by kernel_rfl) ?_
      refine held_callX (d := 33) rfl rfl (by rfl) rfl (by kernel_rfl) Try.func25 (by kernel_rfl) HF.out ?_
      rintro e w5 ⟨rfl, hb5⟩
      refine ⟨_, rfl, ?_⟩
      have HD5 := Lib.hid (Below.then HD0.out hb5 (Nat.le_refl _))
      clear hHeld hb5 HF
      have hHeld := HSS.out _ HD5.out
      refine ⟨hHeld, ?_⟩
      simp only [Act.put, List.setIfInBounds_toArray, List.set_cons_zero, List.set_cons_succ]
      refine held_take (i := 11) (d := 43) (v := .bool true) rfl rfl (by kernel_rfl) (by kernel_rfl) (by kernel_rfl) (fun _ _ _ h => h) (by rfl) (fun W _ => by go_simp) hHeld ?_
      simp only [Act.put, List.setIfInBounds_toArray, List.set_cons_zero, List.set_cons_succ]
      refine held_take (i := 12) (d := 44) (v := .bool true) rfl rfl (by kernel_rfl) (by kernel_rfl) (by kernel_rfl) (fun _ _ _ h => h) (by rfl) (fun W _ => run_move_is (.tmp 43) rfl rfl W) hHeld ?_
      simp only [Act.put, List.setIfInBounds_toArray, List.set_cons_zero, List.set_cons_succ]
      refine held_take (i := 13) (d := 45) (v := .pointer (some ⟨p, 0, none⟩)) rfl rfl (by kernel_rfl) (by kernel_rfl) (by kernel_rfl) (fun _ _ _ h => h) (by rfl) (fun W _ => run_move_is (.tmp 0) rfl rfl W) hHeld ?_
      simp only [Act.put, List.setIfInBounds_toArray, List.set_cons_zero, List.set_cons_succ]
      refine held_take (i := 15) (d := 47) (v := .pointer (some ⟨m, 0, none⟩)) rfl rfl (by kernel_rfl) (by kernel_rfl) (by kernel_rfl) (fun _ _ _ h => h) (by rfl) (fun W _ => run_move_is (.tmp 1) rfl rfl W) hHeld ?_
      simp only [Act.put, List.setIfInBounds_toArray, List.set_cons_zero, List.set_cons_succ]
      refine held_take (i := 16) (d := 48) (v := .pointer (some ⟨m, 0, none⟩)) rfl rfl (by kernel_rfl) (by kernel_rfl) (by kernel_rfl) (fun _ _ _ h => h) (by rfl) (fun W _ => by go_simp) hHeld ?_
      simp only [Act.put, List.setIfInBounds_toArray, List.set_cons_zero, List.set_cons_succ]
      refine held_take (i := 17) (d := 49) (v := .pointer (some ⟨m, 0, none⟩)) rfl rfl (by kernel_rfl) (by kernel_rfl) (by kernel_rfl) (fun _ _ _ h => h) (by rfl) (fun W _ => by go_simp) hHeld ?_
      simp only [Act.put, List.setIfInBounds_toArray, List.set_cons_zero, List.set_cons_succ]
      refine held_take (i := 18) (d := 50) (v := .pointer (some ⟨q, 0, none⟩)) rfl rfl (by kernel_rfl) (by kernel_rfl) (by kernel_rfl) (fun _ _ _ h => h) (by rfl) (fun W hS => by have h1 := hS.1; go_simp) hHeld ?_
      simp only [Act.put, List.setIfInBounds_toArray, List.set_cons_zero, List.set_cons_succ]
      refine held_take (i := 19) (d := 51) (v := .pointer (some ⟨q, 0, none⟩)) rfl rfl (by kernel_rfl) (by kernel_rfl) (by kernel_rfl) (fun _ _ _ h => h) (by rfl) (fun W _ => by go_simp) hHeld ?_
      simp only [Act.put, List.setIfInBounds_toArray, List.set_cons_zero, List.set_cons_succ]
      refine held_take (i := 20) (d := 52) (v := .pointer (some ⟨q, 4, none⟩)) rfl rfl (by kernel_rfl) (by kernel_rfl) (by kernel_rfl) (fun _ _ _ h => h) (by rfl) (fun W _ => by go_simp) hHeld ?_
      simp only [Act.put, List.setIfInBounds_toArray, List.set_cons_zero, List.set_cons_succ]
      refine held_take (i := 21) (d := 53) (v := .int .i64 t.s.gone) rfl rfl (by kernel_rfl) (by kernel_rfl) (by kernel_rfl) (fun _ _ _ h => h) (by rfl) (fun W hS => by have h1 := hS.2.2; go_simp) hHeld ?_
      simp only [Act.put, List.setIfInBounds_toArray, List.set_cons_zero, List.set_cons_succ]
      have HRT := Lib.hid (retT_any (HTr.out.go HD5.out) HW.out hN)
      refine held_one (i := 14) (by kernel_rfl) ?_
      refine held_callX (d := 46) rfl rfl (by rfl) rfl (by kernel_rfl) Try.func26 (by kernel_rfl) HRT.out ?_
      rintro e w6 ⟨rfl, hb6⟩
      refine ⟨_, rfl, ?_⟩
      have HD6 := Lib.hid (Below.then HD5.out hb6 (Nat.le_refl _))
      clear hHeld hb6 HRT
      have hHeld := HSS.out _ HD6.out
      refine ⟨hHeld, ?_⟩
      simp only [Act.put, List.setIfInBounds_toArray, List.set_cons_zero, List.set_cons_succ]
      refine held_take (i := 22) (d := 54) (v := .bool true) rfl rfl (by kernel_rfl) (by kernel_rfl) (by kernel_rfl) (fun _ _ _ h => h) (by rfl) (fun W _ => by go_simp) hHeld ?_
      simp only [Act.put, List.setIfInBounds_toArray, List.set_cons_zero, List.set_cons_succ]
      refine held_take (i := 23) (d := 55) (v := .bool true) rfl rfl (by kernel_rfl) (by kernel_rfl) (by kernel_rfl) (fun _ _ _ h => h) (by rfl) (fun W _ => by go_simp) hHeld ?_
      simp only [Act.put, List.setIfInBounds_toArray, List.set_cons_zero, List.set_cons_succ]
      refine held_take (i := 24) (d := 56) (v := .bool true) rfl rfl (by kernel_rfl) (by kernel_rfl) (by kernel_rfl) (fun _ _ _ h => h) (by rfl) (fun W _ => run_move_is (.tmp 55) rfl rfl W) hHeld ?_
      simp only [Act.put, List.setIfInBounds_toArray, List.set_cons_zero, List.set_cons_succ]
      refine held_take (i := 25) (d := 57) (v := .pointer (some ⟨p, 0, none⟩)) rfl rfl (by kernel_rfl) (by kernel_rfl) (by kernel_rfl) (fun _ _ _ h => h) (by rfl) (fun W _ => run_move_is (.tmp 0) rfl rfl W) hHeld ?_
      simp only [Act.put, List.setIfInBounds_toArray, List.set_cons_zero, List.set_cons_succ]
      refine held_take (i := 27) (d := 59) (v := .pointer (some ⟨m, 0, none⟩)) rfl rfl (by kernel_rfl) (by kernel_rfl) (by kernel_rfl) (fun _ _ _ h => h) (by rfl) (fun W _ => run_move_is (.tmp 1) rfl rfl W) hHeld ?_
      simp only [Act.put, List.setIfInBounds_toArray, List.set_cons_zero, List.set_cons_succ]
      refine held_take (i := 28) (d := 60) (v := .pointer (some ⟨m, 0, none⟩)) rfl rfl (by kernel_rfl) (by kernel_rfl) (by kernel_rfl) (fun _ _ _ h => h) (by rfl) (fun W _ => by go_simp) hHeld ?_
      simp only [Act.put, List.setIfInBounds_toArray, List.set_cons_zero, List.set_cons_succ]
      refine held_take (i := 29) (d := 61) (v := .pointer (some ⟨m, 0, none⟩)) rfl rfl (by kernel_rfl) (by kernel_rfl) (by kernel_rfl) (fun _ _ _ h => h) (by rfl) (fun W _ => by go_simp) hHeld ?_
      simp only [Act.put, List.setIfInBounds_toArray, List.set_cons_zero, List.set_cons_succ]
      refine held_take (i := 30) (d := 62) (v := .pointer (some ⟨q, 0, none⟩)) rfl rfl (by kernel_rfl) (by kernel_rfl) (by kernel_rfl) (fun _ _ _ h => h) (by rfl) (fun W hS => by have h1 := hS.1; go_simp) hHeld ?_
      simp only [Act.put, List.setIfInBounds_toArray, List.set_cons_zero, List.set_cons_succ]
      refine held_take (i := 31) (d := 63) (v := .pointer (some ⟨q, 0, none⟩)) rfl rfl (by kernel_rfl) (by kernel_rfl) (by kernel_rfl) (fun _ _ _ h => h) (by rfl) (fun W _ => by go_simp) hHeld ?_
      simp only [Act.put, List.setIfInBounds_toArray, List.set_cons_zero, List.set_cons_succ]
      refine held_take (i := 32) (d := 64) (v := .pointer (some ⟨q, 3, none⟩)) rfl rfl (by kernel_rfl) (by kernel_rfl) (by kernel_rfl) (fun _ _ _ h => h) (by rfl) (fun W _ => by go_simp) hHeld ?_
      simp only [Act.put, List.setIfInBounds_toArray, List.set_cons_zero, List.set_cons_succ]
      refine held_take (i := 33) (d := 65) (v := .slice A3 n3 c3) rfl rfl (by kernel_rfl) (by kernel_rfl) (by kernel_rfl) (fun _ _ _ h => h) (by rfl) (fun W hS => by have h1 := hS.2.1; go_simp) hHeld ?_
      simp only [Act.put, List.setIfInBounds_toArray, List.set_cons_zero, List.set_cons_succ]
      have HPL := Lib.hid (poolT_any (HTr.out.go HD6.out) HW.out hN)
      refine held_one (i := 26) (by kernel_rfl) ?_
      refine held_callX (d := 58) rfl rfl (by rfl) rfl (by kernel_rfl) Try.func27 (by kernel_rfl) HPL.out ?_
      rintro e w7 ⟨v7, rfl, ho7, hb7⟩
      obtain ⟨A7, n7, c7, rfl, hx7⟩ := ho7.shape
      refine ⟨_, rfl, ?_⟩
      have HD7 := Lib.hid (Below.then HD6.out hb7 (Nat.le_refl _))
      clear hHeld hb7 HPL ho7
      have hHeld := HSS.out _ HD7.out
      refine ⟨hHeld, ?_⟩
      simp only [Act.put, List.setIfInBounds_toArray, List.set_cons_zero, List.set_cons_succ]
      have HSI := Lib.hid (sameInts_any A7 A3 n7 n3 c7 c3 t.s.free t.s.free w7 hx7 (HKr.out.go HD7.out))
      rw [decide_eq_true rfl] at HSI
      refine held_one (i := 34) (by kernel_rfl) ?_
      refine held_callX (d := 66) rfl rfl (by rfl) rfl (by kernel_rfl) Try.func32 (by kernel_rfl) HSI.out ?_
      rintro e w8 ⟨rfl, hb8⟩
      refine ⟨_, rfl, ?_⟩
      have HD8 := Lib.hid (Below.then HD7.out hb8 (Nat.le_refl _))
      clear hHeld hb8 HSI
      have hHeld := HSS.out _ HD8.out
      refine ⟨hHeld, ?_⟩
      simp only [Act.put, List.setIfInBounds_toArray, List.set_cons_zero, List.set_cons_succ]
      refine held_take (i := 35) (d := 67) (v := .bool true) rfl rfl (by kernel_rfl) (by kernel_rfl) (by kernel_rfl) (fun _ _ _ h => h) (by rfl) (fun W _ => by go_simp) hHeld ?_
      simp only [Act.put, List.setIfInBounds_toArray, List.set_cons_zero, List.set_cons_succ]
      refine wpAnyH_done (by kernel_rfl) ?_ _
      simp only [atEnd]
      go_wp2
      go_ret
      exact ⟨rfl, Below.then HB.out HD8.out (Nat.le_refl _)⟩
end
end Go.Proofs.Ytaoojgnkbcoggaa
