/-
  A step of the law: a call of the meter and one of its model. Conditions: fewer than a hundred thousand changes so far.
-/
import Derived.Test.YtfhpdjlppblkcaaQaw
namespace Go.Proofs.Ytfhpdjlppblkcaa
open Go.ChangeShapes Go.WideShapes Go.ChangeAt Go.RowKit
set_option linter.unusedVariables false
set_option linter.unusedSimpArgs false
set_option maxHeartbeats 8000000
set_option maxRecDepth 100000

section
variable {w w0 w1 w2 : World} {c0 c : Nat → Nat} {N M p m : Nat} {l : Q3} {f g f' g' : Int → Q3} {z a b d r : Int}
theorem Ts.fitsL' (H : Ts w0 c0 N p m l f g w) (hl : l.In) (hz : Ri z) (hr : fitE l (f z) ⟨a, b, d⟩ = r) : Calls Try.prog 13 #[.pointer (some ⟨p, 0, none⟩), .int .i64 z, .agg #[.int .i64 a, .int .i64 b, .int .i64 d]] w fun e w' => e = .returned (.int .i64 r) ∧ Ts w0 c0 N p m l f g w' := by
  have := H.fitsL hl hz ⟨a, b, d⟩
  rw [hr] at this
  exact this
theorem Ts.fitsR' (H : Ts w0 c0 N p m l f g w) (hl : l.In) (hi : Q3.In ⟨a, b, d⟩) (hr : fitE l (g z) ⟨a, b, d⟩ = r) : Calls Try.prog 14 #[.pointer (some ⟨m, 0, none⟩), .int .i64 z, .agg #[.int .i64 a, .int .i64 b, .int .i64 d]] w fun e w' => e = .returned (.int .i64 r) ∧ Ts w0 c0 N p m l f g w' := by
  have := H.fitsR hl hi z
  rw [hr] at this
  exact this
theorem Ts.addL' (H : Ts w0 c0 N p m l f g w) (hl : l.In) (hz : Ri z) (hN : N < 100000) (hr : fitE l (f z) ⟨a, b, d⟩ = r) : Calls Try.prog 15 #[.pointer (some ⟨p, 0, none⟩), .int .i64 z, .agg #[.int .i64 a, .int .i64 b, .int .i64 d]] w fun e w' => e = .returned (.int .i64 r) ∧ Ts w0 c0 (N + 1) p m l (addF l z ⟨a, b, d⟩ f) g w' := by
  have := H.addL hl hz hN ⟨a, b, d⟩
  rw [hr] at this
  exact this
theorem Ts.addR' (H : Ts w0 c0 N p m l f g w) (hl : l.In) (hi : Q3.In ⟨a, b, d⟩) (hN : N < 100000) (hr : fitE l (g z) ⟨a, b, d⟩ = r) : Calls Try.prog 16 #[.pointer (some ⟨m, 0, none⟩), .int .i64 z, .agg #[.int .i64 a, .int .i64 b, .int .i64 d]] w fun e w' => e = .returned (.int .i64 r) ∧ Ts w0 c0 (N + 1) p m l f (addF l z ⟨a, b, d⟩ g) w' := by
  have := H.addR hl hi hN z
  rw [hr] at this
  exact this
theorem Ts.subL' (H : Ts w0 c0 N p m l f g w) (hl : l.In) (hz : Ri z) (hN : N < 100000) (hi : Q3.In ⟨a, b, d⟩) (hr : subE (f z) ⟨a, b, d⟩ = r) : Calls Try.prog 17 #[.pointer (some ⟨p, 0, none⟩), .int .i64 z, .agg #[.int .i64 a, .int .i64 b, .int .i64 d]] w fun e w' => e = .returned (.int .i64 r) ∧ Ts w0 c0 (N + 1) p m l (subF z ⟨a, b, d⟩ f) g w' := by
  have := H.subL hl hz hN hi
  rw [hr] at this
  exact this
theorem Ts.subR' (H : Ts w0 c0 N p m l f g w) (hl : l.In) (hi : Q3.In ⟨a, b, d⟩) (hN : N < 100000) (hr : subE (g z) ⟨a, b, d⟩ = r) : Calls Try.prog 18 #[.pointer (some ⟨m, 0, none⟩), .int .i64 z, .agg #[.int .i64 a, .int .i64 b, .int .i64 d]] w fun e w' => e = .returned (.int .i64 r) ∧ Ts w0 c0 (N + 1) p m l f (subF z ⟨a, b, d⟩ g) w' := by
  have := H.subR hl hi hN z
  rw [hr] at this
  exact this
theorem Ts.getL' (H : Ts w0 c0 N p m l f g w) (hz : Ri z) (hr : f z = ⟨a, b, d⟩) : Calls Try.prog 10 #[.pointer (some ⟨p, 0, none⟩), .int .i64 z] w fun e w' => e = .returned (.agg #[.int .i64 a, .int .i64 b, .int .i64 d]) ∧ Ts w0 c0 N p m l f g w' := by
  have := H.getL hz
  rw [hr] at this
  exact this
theorem Ts.getR' (H : Ts w0 c0 N p m l f g w) (hr : g z = ⟨a, b, d⟩) : Calls Try.prog 11 #[.pointer (some ⟨m, 0, none⟩), .int .i64 z] w fun e w' => e = .returned (.agg #[.int .i64 a, .int .i64 b, .int .i64 d]) ∧ Ts w0 c0 N p m l f g w' := by
  have := H.getR z
  rw [hr] at this
  exact this
end
theorem ri_4 (x : Int) : Ri (x % 4) := by
  have h1 := Int.emod_nonneg x (show (4 : Int) ≠ 0 by omega)
  have h2 := Int.emod_lt_of_pos x (show (0 : Int) < 4 by omega)
  generalize x % 4 = y at *
  exact WalkArith.wf_i64 (by omega)
theorem amt_in {x2 x3 x4 : Int} (h2 : 0 ≤ x2 ∧ x2 ≤ 255) (h3 : 0 ≤ x3 ∧ x3 ≤ 255) (h4 : 0 ≤ x4 ∧ x4 ≤ 255) : (amt x2 x3 x4).In := by
  unfold amt Q3.In
  simp only
  omega
/-- What a step leaves. -/
def stpF (l : Q3) (x0 z : Int) (q : Q3) (f : Int → Q3) : Int → Q3 := if x0 % 8 = 0 then addF l z q (resF z f) else if x0 % 8 ≤ 3 then subF z q f else addF l z q f
theorem stp_ne {l : Q3} {x0 z y : Int} {q : Q3} {f : Int → Q3} (h : y ≠ z) : stpF l x0 z q f y = f y := by
  unfold stpF addF subF resF
  split
  · split
    · rw [upd_ne h, upd_ne h]
    · rw [upd_ne h]
  · split
    · split
      · rw [upd_ne h]
      · rfl
    · split
      · rw [upd_ne h]
      · rfl
theorem step15_any (w : World) (c0 : Nat → Nat) (N p m : Nat) (l : Q3) (f : Int → Q3) (x0 x1 x2 x3 x4 : Int) (H : Ts w c0 N p m l f f w) (hl : l.In) (hN : N < 90000) (h0 : 0 ≤ x0 ∧ x0 ≤ 255) (h1 : 0 ≤ x1 ∧ x1 ≤ 255) (h2 : 0 ≤ x2 ∧ x2 ≤ 255) (h3 : 0 ≤ x3 ∧ x3 ≤ 255) (h4 : 0 ≤ x4 ∧ x4 ≤ 255) :
    Calls Try.prog 9 #[.pointer (some ⟨p, 0, none⟩), .pointer (some ⟨m, 0, none⟩), by5 x0 x1 x2 x3 x4] w fun e w' => e = .returned (.bool true) ∧ Ts w c0 (N + 4) p m l (stpF l x0 (x1 % 4) (amt x2 x3 x4) f) (stpF l x0 (x1 % 4) (amt x2 x3 x4) f) w' := by
  have hb : Below w.heap.size w (w.alloc (.cells #[.int .u8 x0, .int .u8 x1, .int .u8 x2, .int .u8 x3, .int .u8 x4] 33)) := (Below.refl _ _).alloc (Nat.le_refl _) _
  have hx0 := heap_alloc_new w (.cells #[.int .u8 x0, .int .u8 x1, .int .u8 x2, .int .u8 x3, .int .u8 x4] 33)
  have HA := Lib.hid (amount_any x0 x1 x2 x3 x4 h2 h3 h4 (w.alloc (.cells #[.int .u8 x0, .int .u8 x1, .int .u8 x2, .int .u8 x3, .int .u8 x4] 33)))
  have HQI := Lib.hid (amt_in h2 h3 h4)
  have HFF : Hid (stpF l x0 (x1 % 4) (amt x2 x3 x4) f = if x0 % 8 = 0 then addF l (x1 % 4) (amt x2 x3 x4) (resF (x1 % 4) f) else if x0 % 8 ≤ 3 then subF (x1 % 4) (amt x2 x3 x4) f else addF l (x1 % 4) (amt x2 x3 x4) f) := Lib.hid rfl
  have HRZ := Lib.hid (ri_4 x1)
  have HL := Lib.hid hl
  have HH := Lib.hid H
  have HB := Lib.hid hb
  have HX0 := Lib.hid hx0
  generalize amt x2 x3 x4 = q at *
  obtain ⟨qb, qo, qh⟩ := q
  generalize stpF l x0 (x1 % 4) ⟨qb, qo, qh⟩ f = F at *
  unfold by5 at *
  unfold Q3.val at HA
  simp only at HA
  have e8 := Int.emod_nonneg x0 (show (8 : Int) ≠ 0 by omega)
  have e8' := Int.emod_lt_of_pos x0 (show (0 : Int) < 8 by omega)
  have e4 := Int.emod_nonneg x1 (show (4 : Int) ≠ 0 by omega)
  have e4' := Int.emod_lt_of_pos x1 (show (0 : Int) < 4 by omega)
  clear H hl hb hx0
  go_enter Try.func9, Try.ntmps9
  go_wp2_with fail
  refine HA.out.mono ?_
  rintro e w2 ⟨rfl, hb2⟩
  have hx2 := (hb2.block _ (Array.getElem?_eq_some_iff.1 HX0.out).1).trans HX0.out
  have hb3 : Below w.heap.size w (w2.alloc (.cells #[.int .i64 qb, .int .i64 qo, .int .i64 qh] 25)) := (Below.then HB.out hb2 (Nat.le_refl _)).alloc (Below.then HB.out hb2 (Nat.le_refl _)).size _
  have hx3 := (Below.heap_alloc w2 (.cells #[.int .i64 qb, .int .i64 qo, .int .i64 qh] 25) _ (Array.getElem?_eq_some_iff.1 hx2).1).trans hx2
  have y0 := cell_of_row _ _ 0 _ _ _ hx3
  have k0 : (w2.alloc (.cells #[.int .i64 qb, .int .i64 qo, .int .i64 qh] 25)).cell? ⟨w.heap.size, 0, none⟩ = some (.int .u8 x0) := y0
  obtain ⟨c1, hT, hz, hback⟩ := HH.out.base hb3
  have HBK := Lib.hid (fun (M : Nat) (f' : Int → Q3) (w3 : World) (h : Ts _ c1 M p m l f' f' w3) => hback h)
  have HZ : Hid (c1 w2.heap.size = 0) := Lib.hid (hz _ (Below.then HB.out hb2 (Nat.le_refl _)).size)
  have HC : Hid ((w2.alloc (.cells #[.int .i64 qb, .int .i64 qo, .int .i64 qh] 25)).heap[w2.heap.size]? = some (.cells #[.int .i64 qb, .int .i64 qo, .int .i64 qh] 25 (0, 0))) := Lib.hid (heap_alloc_new w2 _)
  have HTQ := Lib.hid hT
  clear HA hb2 hx2 hb3 hx3 y0 hT hz hback HB HX0 HH
  have hcs : x0 % 8 = 0 ∨ x0 % 8 = 1 ∨ x0 % 8 = 2 ∨ x0 % 8 = 3 ∨ 4 ≤ x0 % 8 := by omega
  rcases hcs with hc | hc | hc | hc | hc
  · have t0 : (x0 % 8 == 0) = true := by simpa using hc
    have HF : Hid (F = addF l (x1 % 4) ⟨qb, qo, qh⟩ (resF (x1 % 4) f)) := Lib.hid (by rw [HFF.out, if_pos hc])
    have HRL := Lib.hid (HTQ.out.resetL HRZ.out)
    clear hc HFF
    go_wp2_with fail
    refine HRL.out.mono ?_
    rintro e wa ⟨rfl, hTa⟩
    have HCa : Hid (wa.heap[w2.heap.size]? = some (.cells #[.int .i64 qb, .int .i64 qo, .int .i64 qh] 25 (0, 0))) := Lib.hid (hTa.kz.heap HZ.out HC.out)
    have HTa := Lib.hid hTa
    have HRR := Lib.hid (hTa.resetR (by omega) (x1 % 4))
    clear HRL hTa k0
    go_wp2_with fail
    refine HRR.out.mono ?_
    rintro e wb ⟨rfl, hTb⟩
    have HCb : Hid (wb.heap[w2.heap.size]? = some (.cells #[.int .i64 qb, .int .i64 qo, .int .i64 qh] 25 (0, 0))) := Lib.hid (hTb.kz.heap HZ.out HC.out)
    have HTb := Lib.hid hTb
    clear HRR hTb HTa HCa
    obtain ⟨E, hE⟩ : ∃ E, fitE l (resF (x1 % 4) f (x1 % 4)) ⟨qb, qo, qh⟩ = E := ⟨_, rfl⟩
    have HE := Lib.hid hE
    obtain ⟨⟨xb, xo, xh⟩, hx⟩ : ∃ x, addF l (x1 % 4) ⟨qb, qo, qh⟩ (resF (x1 % 4) f) (x1 % 4) = x := ⟨_, rfl⟩
    have HX := Lib.hid hx
    clear hE hx
    go_wp2_with fail
    generalize w2.alloc (.cells #[.int .i64 qb, .int .i64 qo, .int .i64 qh] 25) = w9 at *
    generalize w2.heap.size = bq at *
    generalize w.heap.size = bx at *
    have HT0 := Lib.hid (HTb.out.go (below_drewN (Below.refl wb.heap.size wb) 1))
    have HC0 : Hid (wb.drew.heap[bq]? = some (.cells #[.int .i64 qb, .int .i64 qo, .int .i64 qh] 25 (0, 0))) := HCb
    refine wp_region_hand 30 (fun W => W.heap[bq]? = some (.cells #[.int .i64 qb, .int .i64 qo, .int .i64 qh] 25 (0, 0))) (by kernel_rfl) (by kernel_rfl) ?_
    rw [show Array.replicate 30 false = #[false, false, false, false, false, false, false, false, false, false, false, false, false, false, false, false, false, false, false, false, false, false, false, false, false, false, false, false, false, false] from rfl]
    have hHeld := HC0.out
    refine held_take (i := 0) (d := 48) (v := .pointer (some ⟨p, 0, none⟩)) rfl rfl (by kernel_rfl) (by kernel_rfl) (by kernel_rfl) (fun _ _ _ h => h) (by rfl) (fun W _ => run_move_is (.tmp 0) rfl rfl W) hHeld ?_
    simp only [Act.put, List.setIfInBounds_toArray, List.set_cons_zero, List.set_cons_succ]
    refine held_take (i := 1) (d := 49) (v := .int .i64 (x1 % 4)) rfl rfl (by kernel_rfl) (by kernel_rfl) (by kernel_rfl) (fun _ _ _ h => h) (by rfl) (fun W _ => run_move_is (.tmp 7) rfl rfl W) hHeld ?_
    simp only [Act.put, List.setIfInBounds_toArray, List.set_cons_zero, List.set_cons_succ]
    refine held_take (i := 2) (d := 50) (v := .agg #[.int .i64 qb, .int .i64 qo, .int .i64 qh]) rfl rfl (by kernel_rfl) (by kernel_rfl) (by kernel_rfl) (fun _ _ _ h => h) (by rfl) (fun W hS => by obtain ⟨g0, g1, g2⟩ := cells3 hS; go_simp) hHeld ?_
    simp only [Act.put, List.setIfInBounds_toArray, List.set_cons_zero, List.set_cons_succ]
    refine held_take (i := 4) (d := 52) (v := .pointer (some ⟨m, 0, none⟩)) rfl rfl (by kernel_rfl) (by kernel_rfl) (by kernel_rfl) (fun _ _ _ h => h) (by rfl) (fun W _ => run_move_is (.tmp 1) rfl rfl W) hHeld ?_
    simp only [Act.put, List.setIfInBounds_toArray, List.set_cons_zero, List.set_cons_succ]
    refine held_take (i := 5) (d := 53) (v := .int .i64 (x1 % 4)) rfl rfl (by kernel_rfl) (by kernel_rfl) (by kernel_rfl) (fun _ _ _ h => h) (by rfl) (fun W _ => run_move_is (.tmp 7) rfl rfl W) hHeld ?_
    simp only [Act.put, List.setIfInBounds_toArray, List.set_cons_zero, List.set_cons_succ]
    refine held_take (i := 6) (d := 54) (v := .agg #[.int .i64 qb, .int .i64 qo, .int .i64 qh]) rfl rfl (by kernel_rfl) (by kernel_rfl) (by kernel_rfl) (fun _ _ _ h => h) (by rfl) (fun W hS => by obtain ⟨g0, g1, g2⟩ := cells3 hS; go_simp) hHeld ?_
    simp only [Act.put, List.setIfInBounds_toArray, List.set_cons_zero, List.set_cons_succ]
    have HCL := Lib.hid (HT0.out.fitsL' HL.out HRZ.out HE.out)
    refine held_one (i := 3) (by kernel_rfl) ?_
    refine held_callX (d := 51) rfl rfl (by rfl) rfl (by kernel_rfl) Try.func13 (by kernel_rfl) HCL.out ?_
    rintro e v1 ⟨rfl, hT1⟩
    have HT1 := Lib.hid hT1
    have HC1 : Hid (v1.heap[bq]? = some (.cells #[.int .i64 qb, .int .i64 qo, .int .i64 qh] 25 (0, 0))) := Lib.hid (hT1.kz.heap HZ.out HC.out)
    clear hT1
    refine ⟨_, rfl, ?_⟩
    clear HCL hHeld
    have hHeld := HC1.out
    refine ⟨hHeld, ?_⟩
    simp only [Act.put, List.setIfInBounds_toArray, List.set_cons_zero, List.set_cons_succ]
    have HCL := Lib.hid (HT1.out.fitsR' HL.out HQI.out HE.out)
    refine held_one (i := 7) (by kernel_rfl) ?_
    refine held_callX (d := 55) rfl rfl (by rfl) rfl (by kernel_rfl) Try.func14 (by kernel_rfl) HCL.out ?_
    rintro e v2 ⟨rfl, hT2⟩
    have HT2 := Lib.hid hT2
    have HC2 : Hid (v2.heap[bq]? = some (.cells #[.int .i64 qb, .int .i64 qo, .int .i64 qh] 25 (0, 0))) := Lib.hid (hT2.kz.heap HZ.out HC.out)
    clear hT2
    refine ⟨_, rfl, ?_⟩
    clear HCL hHeld
    have hHeld := HC2.out
    refine ⟨hHeld, ?_⟩
    simp only [Act.put, List.setIfInBounds_toArray, List.set_cons_zero, List.set_cons_succ]
    refine held_take (i := 8) (d := 56) (v := .bool true) rfl rfl (by kernel_rfl) (by kernel_rfl) (by kernel_rfl) (fun _ _ _ h => h) (by rfl) (fun W _ => by go_simp) hHeld ?_
    simp only [Act.put, List.setIfInBounds_toArray, List.set_cons_zero, List.set_cons_succ]
    refine held_take (i := 9) (d := 57) (v := .bool true) rfl rfl (by kernel_rfl) (by kernel_rfl) (by kernel_rfl) (fun _ _ _ h => h) (by rfl) (fun W _ => run_move_is (.tmp 56) rfl rfl W) hHeld ?_
    simp only [Act.put, List.setIfInBounds_toArray, List.set_cons_zero, List.set_cons_succ]
    refine held_take (i := 10) (d := 58) (v := .pointer (some ⟨p, 0, none⟩)) rfl rfl (by kernel_rfl) (by kernel_rfl) (by kernel_rfl) (fun _ _ _ h => h) (by rfl) (fun W _ => run_move_is (.tmp 0) rfl rfl W) hHeld ?_
    simp only [Act.put, List.setIfInBounds_toArray, List.set_cons_zero, List.set_cons_succ]
    refine held_take (i := 11) (d := 59) (v := .int .i64 (x1 % 4)) rfl rfl (by kernel_rfl) (by kernel_rfl) (by kernel_rfl) (fun _ _ _ h => h) (by rfl) (fun W _ => run_move_is (.tmp 7) rfl rfl W) hHeld ?_
    simp only [Act.put, List.setIfInBounds_toArray, List.set_cons_zero, List.set_cons_succ]
    refine held_take (i := 12) (d := 60) (v := .agg #[.int .i64 qb, .int .i64 qo, .int .i64 qh]) rfl rfl (by kernel_rfl) (by kernel_rfl) (by kernel_rfl) (fun _ _ _ h => h) (by rfl) (fun W hS => by obtain ⟨g0, g1, g2⟩ := cells3 hS; go_simp) hHeld ?_
    simp only [Act.put, List.setIfInBounds_toArray, List.set_cons_zero, List.set_cons_succ]
    refine held_take (i := 14) (d := 62) (v := .pointer (some ⟨m, 0, none⟩)) rfl rfl (by kernel_rfl) (by kernel_rfl) (by kernel_rfl) (fun _ _ _ h => h) (by rfl) (fun W _ => run_move_is (.tmp 1) rfl rfl W) hHeld ?_
    simp only [Act.put, List.setIfInBounds_toArray, List.set_cons_zero, List.set_cons_succ]
    refine held_take (i := 15) (d := 63) (v := .int .i64 (x1 % 4)) rfl rfl (by kernel_rfl) (by kernel_rfl) (by kernel_rfl) (fun _ _ _ h => h) (by rfl) (fun W _ => run_move_is (.tmp 7) rfl rfl W) hHeld ?_
    simp only [Act.put, List.setIfInBounds_toArray, List.set_cons_zero, List.set_cons_succ]
    refine held_take (i := 16) (d := 64) (v := .agg #[.int .i64 qb, .int .i64 qo, .int .i64 qh]) rfl rfl (by kernel_rfl) (by kernel_rfl) (by kernel_rfl) (fun _ _ _ h => h) (by rfl) (fun W hS => by obtain ⟨g0, g1, g2⟩ := cells3 hS; go_simp) hHeld ?_
    simp only [Act.put, List.setIfInBounds_toArray, List.set_cons_zero, List.set_cons_succ]
    have HCL := Lib.hid (HT2.out.addL' HL.out HRZ.out (by omega) HE.out)
    refine held_one (i := 13) (by kernel_rfl) ?_
    refine held_callX (d := 61) rfl rfl (by rfl) rfl (by kernel_rfl) Try.func15 (by kernel_rfl) HCL.out ?_
    rintro e v3 ⟨rfl, hT3⟩
    have HT3 := Lib.hid hT3
    have HC3 : Hid (v3.heap[bq]? = some (.cells #[.int .i64 qb, .int .i64 qo, .int .i64 qh] 25 (0, 0))) := Lib.hid (hT3.kz.heap HZ.out HC.out)
    clear hT3
    refine ⟨_, rfl, ?_⟩
    clear HCL hHeld
    have hHeld := HC3.out
    refine ⟨hHeld, ?_⟩
    simp only [Act.put, List.setIfInBounds_toArray, List.set_cons_zero, List.set_cons_succ]
    have HCL := Lib.hid (HT3.out.addR' HL.out HQI.out (by omega) HE.out)
    refine held_one (i := 17) (by kernel_rfl) ?_
    refine held_callX (d := 65) rfl rfl (by rfl) rfl (by kernel_rfl) Try.func16 (by kernel_rfl) HCL.out ?_
    rintro e v4 ⟨rfl, hT4⟩
    have HT4 := Lib.hid hT4
    have HC4 : Hid (v4.heap[bq]? = some (.cells #[.int .i64 qb, .int .i64 qo, .int .i64 qh] 25 (0, 0))) := Lib.hid (hT4.kz.heap HZ.out HC.out)
    clear hT4
    refine ⟨_, rfl, ?_⟩
    clear HCL hHeld
    have hHeld := HC4.out
    refine ⟨hHeld, ?_⟩
    simp only [Act.put, List.setIfInBounds_toArray, List.set_cons_zero, List.set_cons_succ]
    refine held_take (i := 18) (d := 66) (v := .bool true) rfl rfl (by kernel_rfl) (by kernel_rfl) (by kernel_rfl) (fun _ _ _ h => h) (by rfl) (fun W _ => by go_simp) hHeld ?_
    simp only [Act.put, List.setIfInBounds_toArray, List.set_cons_zero, List.set_cons_succ]
    refine held_take (i := 19) (d := 67) (v := .bool true) rfl rfl (by kernel_rfl) (by kernel_rfl) (by kernel_rfl) (fun _ _ _ h => h) (by rfl) (fun W _ => by go_simp) hHeld ?_
    simp only [Act.put, List.setIfInBounds_toArray, List.set_cons_zero, List.set_cons_succ]
    refine held_take (i := 20) (d := 68) (v := .bool true) rfl rfl (by kernel_rfl) (by kernel_rfl) (by kernel_rfl) (fun _ _ _ h => h) (by rfl) (fun W _ => run_move_is (.tmp 67) rfl rfl W) hHeld ?_
    simp only [Act.put, List.setIfInBounds_toArray, List.set_cons_zero, List.set_cons_succ]
    refine held_take (i := 21) (d := 69) (v := .pointer (some ⟨p, 0, none⟩)) rfl rfl (by kernel_rfl) (by kernel_rfl) (by kernel_rfl) (fun _ _ _ h => h) (by rfl) (fun W _ => run_move_is (.tmp 0) rfl rfl W) hHeld ?_
    simp only [Act.put, List.setIfInBounds_toArray, List.set_cons_zero, List.set_cons_succ]
    refine held_take (i := 22) (d := 70) (v := .int .i64 (x1 % 4)) rfl rfl (by kernel_rfl) (by kernel_rfl) (by kernel_rfl) (fun _ _ _ h => h) (by rfl) (fun W _ => run_move_is (.tmp 7) rfl rfl W) hHeld ?_
    simp only [Act.put, List.setIfInBounds_toArray, List.set_cons_zero, List.set_cons_succ]
    refine held_take (i := 24) (d := 72) (v := .pointer (some ⟨m, 0, none⟩)) rfl rfl (by kernel_rfl) (by kernel_rfl) (by kernel_rfl) (fun _ _ _ h => h) (by rfl) (fun W _ => run_move_is (.tmp 1) rfl rfl W) hHeld ?_
    simp only [Act.put, List.setIfInBounds_toArray, List.set_cons_zero, List.set_cons_succ]
    refine held_take (i := 25) (d := 73) (v := .int .i64 (x1 % 4)) rfl rfl (by kernel_rfl) (by kernel_rfl) (by kernel_rfl) (fun _ _ _ h => h) (by rfl) (fun W _ => run_move_is (.tmp 7) rfl rfl W) hHeld ?_
    simp only [Act.put, List.setIfInBounds_toArray, List.set_cons_zero, List.set_cons_succ]
    have HCL := Lib.hid (HT4.out.getL' HRZ.out HX.out)
    refine held_one (i := 23) (by kernel_rfl) ?_
    refine held_callX (d := 71) rfl rfl (by rfl) rfl (by kernel_rfl) Try.func10 (by kernel_rfl) HCL.out ?_
    rintro e v5 ⟨rfl, hT5⟩
    have HT5 := Lib.hid hT5
    have HC5 : Hid (v5.heap[bq]? = some (.cells #[.int .i64 qb, .int .i64 qo, .int .i64 qh] 25 (0, 0))) := Lib.hid (hT5.kz.heap HZ.out HC.out)
    clear hT5
    refine ⟨_, rfl, ?_⟩
    clear HCL hHeld
    have hHeld := HC5.out
    refine ⟨hHeld, ?_⟩
    simp only [Act.put, List.setIfInBounds_toArray, List.set_cons_zero, List.set_cons_succ]
    have HCL := Lib.hid (HT5.out.getR' HX.out)
    refine held_one (i := 26) (by kernel_rfl) ?_
    refine held_callX (d := 74) rfl rfl (by rfl) rfl (by kernel_rfl) Try.func11 (by kernel_rfl) HCL.out ?_
    rintro e v6 ⟨rfl, hT6⟩
    have HT6 := Lib.hid hT6
    have HC6 : Hid (v6.heap[bq]? = some (.cells #[.int .i64 qb, .int .i64 qo, .int .i64 qh] 25 (0, 0))) := Lib.hid (hT6.kz.heap HZ.out HC.out)
    clear hT6
    refine ⟨_, rfl, ?_⟩
    clear HCL hHeld
    have hHeld := HC6.out
    refine ⟨hHeld, ?_⟩
    simp only [Act.put, List.setIfInBounds_toArray, List.set_cons_zero, List.set_cons_succ]
    refine held_take (i := 27) (d := 75) (v := .bool true) rfl rfl (by kernel_rfl) (by kernel_rfl) (by kernel_rfl) (fun _ _ _ h => h) (by rfl) (fun W _ => by have heq := eq_q3 xb xo xh xb xo xh; go_simp) hHeld ?_
    simp only [Act.put, List.setIfInBounds_toArray, List.set_cons_zero, List.set_cons_succ]
    refine held_take (i := 28) (d := 76) (v := .bool true) rfl rfl (by kernel_rfl) (by kernel_rfl) (by kernel_rfl) (fun _ _ _ h => h) (by rfl) (fun W _ => by go_simp) hHeld ?_
    simp only [Act.put, List.setIfInBounds_toArray, List.set_cons_zero, List.set_cons_succ]
    refine held_take (i := 29) (d := 6) (v := .bool true) rfl rfl (by kernel_rfl) (by kernel_rfl) (by kernel_rfl) (fun _ _ _ h => h) (by rfl) (fun W _ => by go_simp) hHeld ?_
    simp only [Act.put, List.setIfInBounds_toArray, List.set_cons_zero, List.set_cons_succ]
    refine wpAnyH_done (by kernel_rfl) ?_ _
    clear hHeld
    have HB := Lib.hid (HBK.out _ _ _ (HT6.out.mono (M := N + 4) (by omega)))
    clear HT0 HT1 HC1 HT2 HC2 HT3 HC3 HT4 HC4 HT5 HC5 HT6 HC6 HC0 HBK HTQ HC HZ HTb HCb
    go_wp2
    go_ret
    exact ⟨rfl, by rw [HF.out]; exact HB.out⟩
  · have t0 : (x0 % 8 == 0) = false := by simp; omega
    have t1 : (x0 % 8 == 1) = true := by simpa using hc
    have HF : Hid (F = subF (x1 % 4) ⟨qb, qo, qh⟩ f) := Lib.hid (by rw [HFF.out, if_neg (by omega), if_pos (by omega)])
    obtain ⟨E, hE⟩ : ∃ E, subE (f (x1 % 4)) ⟨qb, qo, qh⟩ = E := ⟨_, rfl⟩
    have HE := Lib.hid hE
    obtain ⟨⟨xb, xo, xh⟩, hx⟩ : ∃ x, subF (x1 % 4) ⟨qb, qo, qh⟩ f (x1 % 4) = x := ⟨_, rfl⟩
    have HX := Lib.hid hx
    clear hE hx hc HFF
    go_wp2_with fail
    generalize w2.alloc (.cells #[.int .i64 qb, .int .i64 qo, .int .i64 qh] 25) = wq at *
    generalize w2.heap.size = bq at *
    generalize w.heap.size = bx at *
    have HT0 := Lib.hid (HTQ.out.go (below_drewN (Below.refl wq.heap.size wq) 1))
    have HC0 : Hid (wq.drew.heap[bq]? = some (.cells #[.int .i64 qb, .int .i64 qo, .int .i64 qh] 25 (0, 0))) := HC
    refine wp_region_hand 19 (fun W => W.heap[bq]? = some (.cells #[.int .i64 qb, .int .i64 qo, .int .i64 qh] 25 (0, 0))) (by kernel_rfl) (by kernel_rfl) ?_
    rw [show Array.replicate 19 false = #[false, false, false, false, false, false, false, false, false, false, false, false, false, false, false, false, false, false, false] from rfl]
    have hHeld := HC0.out
    refine held_take (i := 0) (d := 30) (v := .pointer (some ⟨p, 0, none⟩)) rfl rfl (by kernel_rfl) (by kernel_rfl) (by kernel_rfl) (fun _ _ _ h => h) (by rfl) (fun W _ => run_move_is (.tmp 0) rfl rfl W) hHeld ?_
    simp only [Act.put, List.setIfInBounds_toArray, List.set_cons_zero, List.set_cons_succ]
    refine held_take (i := 1) (d := 31) (v := .int .i64 (x1 % 4)) rfl rfl (by kernel_rfl) (by kernel_rfl) (by kernel_rfl) (fun _ _ _ h => h) (by rfl) (fun W _ => run_move_is (.tmp 7) rfl rfl W) hHeld ?_
    simp only [Act.put, List.setIfInBounds_toArray, List.set_cons_zero, List.set_cons_succ]
    refine held_take (i := 2) (d := 32) (v := .agg #[.int .i64 qb, .int .i64 qo, .int .i64 qh]) rfl rfl (by kernel_rfl) (by kernel_rfl) (by kernel_rfl) (fun _ _ _ h => h) (by rfl) (fun W hS => by obtain ⟨g0, g1, g2⟩ := cells3 hS; go_simp) hHeld ?_
    simp only [Act.put, List.setIfInBounds_toArray, List.set_cons_zero, List.set_cons_succ]
    refine held_take (i := 4) (d := 34) (v := .pointer (some ⟨m, 0, none⟩)) rfl rfl (by kernel_rfl) (by kernel_rfl) (by kernel_rfl) (fun _ _ _ h => h) (by rfl) (fun W _ => run_move_is (.tmp 1) rfl rfl W) hHeld ?_
    simp only [Act.put, List.setIfInBounds_toArray, List.set_cons_zero, List.set_cons_succ]
    refine held_take (i := 5) (d := 35) (v := .int .i64 (x1 % 4)) rfl rfl (by kernel_rfl) (by kernel_rfl) (by kernel_rfl) (fun _ _ _ h => h) (by rfl) (fun W _ => run_move_is (.tmp 7) rfl rfl W) hHeld ?_
    simp only [Act.put, List.setIfInBounds_toArray, List.set_cons_zero, List.set_cons_succ]
    refine held_take (i := 6) (d := 36) (v := .agg #[.int .i64 qb, .int .i64 qo, .int .i64 qh]) rfl rfl (by kernel_rfl) (by kernel_rfl) (by kernel_rfl) (fun _ _ _ h => h) (by rfl) (fun W hS => by obtain ⟨g0, g1, g2⟩ := cells3 hS; go_simp) hHeld ?_
    simp only [Act.put, List.setIfInBounds_toArray, List.set_cons_zero, List.set_cons_succ]
    have HCL := Lib.hid (HT0.out.subL' HL.out HRZ.out (by omega) HQI.out HE.out)
    refine held_one (i := 3) (by kernel_rfl) ?_
    refine held_callX (d := 33) rfl rfl (by rfl) rfl (by kernel_rfl) Try.func17 (by kernel_rfl) HCL.out ?_
    rintro e v1 ⟨rfl, hT1⟩
    have HT1 := Lib.hid hT1
    have HC1 : Hid (v1.heap[bq]? = some (.cells #[.int .i64 qb, .int .i64 qo, .int .i64 qh] 25 (0, 0))) := Lib.hid (hT1.kz.heap HZ.out HC.out)
    clear hT1
    refine ⟨_, rfl, ?_⟩
    clear HCL hHeld
    have hHeld := HC1.out
    refine ⟨hHeld, ?_⟩
    simp only [Act.put, List.setIfInBounds_toArray, List.set_cons_zero, List.set_cons_succ]
    have HCL := Lib.hid (HT1.out.subR' HL.out HQI.out (by omega) HE.out)
    refine held_one (i := 7) (by kernel_rfl) ?_
    refine held_callX (d := 37) rfl rfl (by rfl) rfl (by kernel_rfl) Try.func18 (by kernel_rfl) HCL.out ?_
    rintro e v2 ⟨rfl, hT2⟩
    have HT2 := Lib.hid hT2
    have HC2 : Hid (v2.heap[bq]? = some (.cells #[.int .i64 qb, .int .i64 qo, .int .i64 qh] 25 (0, 0))) := Lib.hid (hT2.kz.heap HZ.out HC.out)
    clear hT2
    refine ⟨_, rfl, ?_⟩
    clear HCL hHeld
    have hHeld := HC2.out
    refine ⟨hHeld, ?_⟩
    simp only [Act.put, List.setIfInBounds_toArray, List.set_cons_zero, List.set_cons_succ]
    refine held_take (i := 8) (d := 38) (v := .bool true) rfl rfl (by kernel_rfl) (by kernel_rfl) (by kernel_rfl) (fun _ _ _ h => h) (by rfl) (fun W _ => by go_simp) hHeld ?_
    simp only [Act.put, List.setIfInBounds_toArray, List.set_cons_zero, List.set_cons_succ]
    refine held_take (i := 9) (d := 39) (v := .bool true) rfl rfl (by kernel_rfl) (by kernel_rfl) (by kernel_rfl) (fun _ _ _ h => h) (by rfl) (fun W _ => run_move_is (.tmp 38) rfl rfl W) hHeld ?_
    simp only [Act.put, List.setIfInBounds_toArray, List.set_cons_zero, List.set_cons_succ]
    refine held_take (i := 10) (d := 40) (v := .pointer (some ⟨p, 0, none⟩)) rfl rfl (by kernel_rfl) (by kernel_rfl) (by kernel_rfl) (fun _ _ _ h => h) (by rfl) (fun W _ => run_move_is (.tmp 0) rfl rfl W) hHeld ?_
    simp only [Act.put, List.setIfInBounds_toArray, List.set_cons_zero, List.set_cons_succ]
    refine held_take (i := 11) (d := 41) (v := .int .i64 (x1 % 4)) rfl rfl (by kernel_rfl) (by kernel_rfl) (by kernel_rfl) (fun _ _ _ h => h) (by rfl) (fun W _ => run_move_is (.tmp 7) rfl rfl W) hHeld ?_
    simp only [Act.put, List.setIfInBounds_toArray, List.set_cons_zero, List.set_cons_succ]
    refine held_take (i := 13) (d := 43) (v := .pointer (some ⟨m, 0, none⟩)) rfl rfl (by kernel_rfl) (by kernel_rfl) (by kernel_rfl) (fun _ _ _ h => h) (by rfl) (fun W _ => run_move_is (.tmp 1) rfl rfl W) hHeld ?_
    simp only [Act.put, List.setIfInBounds_toArray, List.set_cons_zero, List.set_cons_succ]
    refine held_take (i := 14) (d := 44) (v := .int .i64 (x1 % 4)) rfl rfl (by kernel_rfl) (by kernel_rfl) (by kernel_rfl) (fun _ _ _ h => h) (by rfl) (fun W _ => run_move_is (.tmp 7) rfl rfl W) hHeld ?_
    simp only [Act.put, List.setIfInBounds_toArray, List.set_cons_zero, List.set_cons_succ]
    have HCL := Lib.hid (HT2.out.getL' HRZ.out HX.out)
    refine held_one (i := 12) (by kernel_rfl) ?_
    refine held_callX (d := 42) rfl rfl (by rfl) rfl (by kernel_rfl) Try.func10 (by kernel_rfl) HCL.out ?_
    rintro e v3 ⟨rfl, hT3⟩
    have HT3 := Lib.hid hT3
    have HC3 : Hid (v3.heap[bq]? = some (.cells #[.int .i64 qb, .int .i64 qo, .int .i64 qh] 25 (0, 0))) := Lib.hid (hT3.kz.heap HZ.out HC.out)
    clear hT3
    refine ⟨_, rfl, ?_⟩
    clear HCL hHeld
    have hHeld := HC3.out
    refine ⟨hHeld, ?_⟩
    simp only [Act.put, List.setIfInBounds_toArray, List.set_cons_zero, List.set_cons_succ]
    have HCL := Lib.hid (HT3.out.getR' HX.out)
    refine held_one (i := 15) (by kernel_rfl) ?_
    refine held_callX (d := 45) rfl rfl (by rfl) rfl (by kernel_rfl) Try.func11 (by kernel_rfl) HCL.out ?_
    rintro e v4 ⟨rfl, hT4⟩
    have HT4 := Lib.hid hT4
    have HC4 : Hid (v4.heap[bq]? = some (.cells #[.int .i64 qb, .int .i64 qo, .int .i64 qh] 25 (0, 0))) := Lib.hid (hT4.kz.heap HZ.out HC.out)
    clear hT4
    refine ⟨_, rfl, ?_⟩
    clear HCL hHeld
    have hHeld := HC4.out
    refine ⟨hHeld, ?_⟩
    simp only [Act.put, List.setIfInBounds_toArray, List.set_cons_zero, List.set_cons_succ]
    refine held_take (i := 16) (d := 46) (v := .bool true) rfl rfl (by kernel_rfl) (by kernel_rfl) (by kernel_rfl) (fun _ _ _ h => h) (by rfl) (fun W _ => by have heq := eq_q3 xb xo xh xb xo xh; go_simp) hHeld ?_
    simp only [Act.put, List.setIfInBounds_toArray, List.set_cons_zero, List.set_cons_succ]
    refine held_take (i := 17) (d := 47) (v := .bool true) rfl rfl (by kernel_rfl) (by kernel_rfl) (by kernel_rfl) (fun _ _ _ h => h) (by rfl) (fun W _ => by go_simp) hHeld ?_
    simp only [Act.put, List.setIfInBounds_toArray, List.set_cons_zero, List.set_cons_succ]
    refine held_take (i := 18) (d := 6) (v := .bool true) rfl rfl (by kernel_rfl) (by kernel_rfl) (by kernel_rfl) (fun _ _ _ h => h) (by rfl) (fun W _ => by go_simp) hHeld ?_
    simp only [Act.put, List.setIfInBounds_toArray, List.set_cons_zero, List.set_cons_succ]
    refine wpAnyH_done (by kernel_rfl) ?_ _
    clear hHeld
    have HB := Lib.hid (HBK.out _ _ _ (HT4.out.mono (M := N + 4) (by omega)))
    clear HT0 HT1 HC1 HT2 HC2 HT3 HC3 HT4 HC4 HC0 HBK HTQ HC HZ
    go_wp2
    go_ret
    exact ⟨rfl, by rw [HF.out]; exact HB.out⟩
  · have t0 : (x0 % 8 == 0) = false := by simp; omega
    have t1 : (x0 % 8 == 1) = false := by simp; omega
    have t2 : (x0 % 8 == 2) = true := by simpa using hc
    have HF : Hid (F = subF (x1 % 4) ⟨qb, qo, qh⟩ f) := Lib.hid (by rw [HFF.out, if_neg (by omega), if_pos (by omega)])
    obtain ⟨E, hE⟩ : ∃ E, subE (f (x1 % 4)) ⟨qb, qo, qh⟩ = E := ⟨_, rfl⟩
    have HE := Lib.hid hE
    obtain ⟨⟨xb, xo, xh⟩, hx⟩ : ∃ x, subF (x1 % 4) ⟨qb, qo, qh⟩ f (x1 % 4) = x := ⟨_, rfl⟩
    have HX := Lib.hid hx
    clear hE hx hc HFF
    go_wp2_with fail
    generalize w2.alloc (.cells #[.int .i64 qb, .int .i64 qo, .int .i64 qh] 25) = wq at *
    generalize w2.heap.size = bq at *
    generalize w.heap.size = bx at *
    have HT0 := Lib.hid (HTQ.out.go (below_drewN (Below.refl wq.heap.size wq) 1))
    have HC0 : Hid (wq.drew.heap[bq]? = some (.cells #[.int .i64 qb, .int .i64 qo, .int .i64 qh] 25 (0, 0))) := HC
    refine wp_region_hand 19 (fun W => W.heap[bq]? = some (.cells #[.int .i64 qb, .int .i64 qo, .int .i64 qh] 25 (0, 0))) (by kernel_rfl) (by kernel_rfl) ?_
    rw [show Array.replicate 19 false = #[false, false, false, false, false, false, false, false, false, false, false, false, false, false, false, false, false, false, false] from rfl]
    have hHeld := HC0.out
    refine held_take (i := 0) (d := 30) (v := .pointer (some ⟨p, 0, none⟩)) rfl rfl (by kernel_rfl) (by kernel_rfl) (by kernel_rfl) (fun _ _ _ h => h) (by rfl) (fun W _ => run_move_is (.tmp 0) rfl rfl W) hHeld ?_
    simp only [Act.put, List.setIfInBounds_toArray, List.set_cons_zero, List.set_cons_succ]
    refine held_take (i := 1) (d := 31) (v := .int .i64 (x1 % 4)) rfl rfl (by kernel_rfl) (by kernel_rfl) (by kernel_rfl) (fun _ _ _ h => h) (by rfl) (fun W _ => run_move_is (.tmp 7) rfl rfl W) hHeld ?_
    simp only [Act.put, List.setIfInBounds_toArray, List.set_cons_zero, List.set_cons_succ]
    refine held_take (i := 2) (d := 32) (v := .agg #[.int .i64 qb, .int .i64 qo, .int .i64 qh]) rfl rfl (by kernel_rfl) (by kernel_rfl) (by kernel_rfl) (fun _ _ _ h => h) (by rfl) (fun W hS => by obtain ⟨g0, g1, g2⟩ := cells3 hS; go_simp) hHeld ?_
    simp only [Act.put, List.setIfInBounds_toArray, List.set_cons_zero, List.set_cons_succ]
    refine held_take (i := 4) (d := 34) (v := .pointer (some ⟨m, 0, none⟩)) rfl rfl (by kernel_rfl) (by kernel_rfl) (by kernel_rfl) (fun _ _ _ h => h) (by rfl) (fun W _ => run_move_is (.tmp 1) rfl rfl W) hHeld ?_
    simp only [Act.put, List.setIfInBounds_toArray, List.set_cons_zero, List.set_cons_succ]
    refine held_take (i := 5) (d := 35) (v := .int .i64 (x1 % 4)) rfl rfl (by kernel_rfl) (by kernel_rfl) (by kernel_rfl) (fun _ _ _ h => h) (by rfl) (fun W _ => run_move_is (.tmp 7) rfl rfl W) hHeld ?_
    simp only [Act.put, List.setIfInBounds_toArray, List.set_cons_zero, List.set_cons_succ]
    refine held_take (i := 6) (d := 36) (v := .agg #[.int .i64 qb, .int .i64 qo, .int .i64 qh]) rfl rfl (by kernel_rfl) (by kernel_rfl) (by kernel_rfl) (fun _ _ _ h => h) (by rfl) (fun W hS => by obtain ⟨g0, g1, g2⟩ := cells3 hS; go_simp) hHeld ?_
    simp only [Act.put, List.setIfInBounds_toArray, List.set_cons_zero, List.set_cons_succ]
    have HCL := Lib.hid (HT0.out.subL' HL.out HRZ.out (by omega) HQI.out HE.out)
    refine held_one (i := 3) (by kernel_rfl) ?_
    refine held_callX (d := 33) rfl rfl (by rfl) rfl (by kernel_rfl) Try.func17 (by kernel_rfl) HCL.out ?_
    rintro e v1 ⟨rfl, hT1⟩
    have HT1 := Lib.hid hT1
    have HC1 : Hid (v1.heap[bq]? = some (.cells #[.int .i64 qb, .int .i64 qo, .int .i64 qh] 25 (0, 0))) := Lib.hid (hT1.kz.heap HZ.out HC.out)
    clear hT1
    refine ⟨_, rfl, ?_⟩
    clear HCL hHeld
    have hHeld := HC1.out
    refine ⟨hHeld, ?_⟩
    simp only [Act.put, List.setIfInBounds_toArray, List.set_cons_zero, List.set_cons_succ]
    have HCL := Lib.hid (HT1.out.subR' HL.out HQI.out (by omega) HE.out)
    refine held_one (i := 7) (by kernel_rfl) ?_
    refine held_callX (d := 37) rfl rfl (by rfl) rfl (by kernel_rfl) Try.func18 (by kernel_rfl) HCL.out ?_
    rintro e v2 ⟨rfl, hT2⟩
    have HT2 := Lib.hid hT2
    have HC2 : Hid (v2.heap[bq]? = some (.cells #[.int .i64 qb, .int .i64 qo, .int .i64 qh] 25 (0, 0))) := Lib.hid (hT2.kz.heap HZ.out HC.out)
    clear hT2
    refine ⟨_, rfl, ?_⟩
    clear HCL hHeld
    have hHeld := HC2.out
    refine ⟨hHeld, ?_⟩
    simp only [Act.put, List.setIfInBounds_toArray, List.set_cons_zero, List.set_cons_succ]
    refine held_take (i := 8) (d := 38) (v := .bool true) rfl rfl (by kernel_rfl) (by kernel_rfl) (by kernel_rfl) (fun _ _ _ h => h) (by rfl) (fun W _ => by go_simp) hHeld ?_
    simp only [Act.put, List.setIfInBounds_toArray, List.set_cons_zero, List.set_cons_succ]
    refine held_take (i := 9) (d := 39) (v := .bool true) rfl rfl (by kernel_rfl) (by kernel_rfl) (by kernel_rfl) (fun _ _ _ h => h) (by rfl) (fun W _ => run_move_is (.tmp 38) rfl rfl W) hHeld ?_
    simp only [Act.put, List.setIfInBounds_toArray, List.set_cons_zero, List.set_cons_succ]
    refine held_take (i := 10) (d := 40) (v := .pointer (some ⟨p, 0, none⟩)) rfl rfl (by kernel_rfl) (by kernel_rfl) (by kernel_rfl) (fun _ _ _ h => h) (by rfl) (fun W _ => run_move_is (.tmp 0) rfl rfl W) hHeld ?_
    simp only [Act.put, List.setIfInBounds_toArray, List.set_cons_zero, List.set_cons_succ]
    refine held_take (i := 11) (d := 41) (v := .int .i64 (x1 % 4)) rfl rfl (by kernel_rfl) (by kernel_rfl) (by kernel_rfl) (fun _ _ _ h => h) (by rfl) (fun W _ => run_move_is (.tmp 7) rfl rfl W) hHeld ?_
    simp only [Act.put, List.setIfInBounds_toArray, List.set_cons_zero, List.set_cons_succ]
    refine held_take (i := 13) (d := 43) (v := .pointer (some ⟨m, 0, none⟩)) rfl rfl (by kernel_rfl) (by kernel_rfl) (by kernel_rfl) (fun _ _ _ h => h) (by rfl) (fun W _ => run_move_is (.tmp 1) rfl rfl W) hHeld ?_
    simp only [Act.put, List.setIfInBounds_toArray, List.set_cons_zero, List.set_cons_succ]
    refine held_take (i := 14) (d := 44) (v := .int .i64 (x1 % 4)) rfl rfl (by kernel_rfl) (by kernel_rfl) (by kernel_rfl) (fun _ _ _ h => h) (by rfl) (fun W _ => run_move_is (.tmp 7) rfl rfl W) hHeld ?_
    simp only [Act.put, List.setIfInBounds_toArray, List.set_cons_zero, List.set_cons_succ]
    have HCL := Lib.hid (HT2.out.getL' HRZ.out HX.out)
    refine held_one (i := 12) (by kernel_rfl) ?_
    refine held_callX (d := 42) rfl rfl (by rfl) rfl (by kernel_rfl) Try.func10 (by kernel_rfl) HCL.out ?_
    rintro e v3 ⟨rfl, hT3⟩
    have HT3 := Lib.hid hT3
    have HC3 : Hid (v3.heap[bq]? = some (.cells #[.int .i64 qb, .int .i64 qo, .int .i64 qh] 25 (0, 0))) := Lib.hid (hT3.kz.heap HZ.out HC.out)
    clear hT3
    refine ⟨_, rfl, ?_⟩
    clear HCL hHeld
    have hHeld := HC3.out
    refine ⟨hHeld, ?_⟩
    simp only [Act.put, List.setIfInBounds_toArray, List.set_cons_zero, List.set_cons_succ]
    have HCL := Lib.hid (HT3.out.getR' HX.out)
    refine held_one (i := 15) (by kernel_rfl) ?_
    refine held_callX (d := 45) rfl rfl (by rfl) rfl (by kernel_rfl) Try.func11 (by kernel_rfl) HCL.out ?_
    rintro e v4 ⟨rfl, hT4⟩
    have HT4 := Lib.hid hT4
    have HC4 : Hid (v4.heap[bq]? = some (.cells #[.int .i64 qb, .int .i64 qo, .int .i64 qh] 25 (0, 0))) := Lib.hid (hT4.kz.heap HZ.out HC.out)
    clear hT4
    refine ⟨_, rfl, ?_⟩
    clear HCL hHeld
    have hHeld := HC4.out
    refine ⟨hHeld, ?_⟩
    simp only [Act.put, List.setIfInBounds_toArray, List.set_cons_zero, List.set_cons_succ]
    refine held_take (i := 16) (d := 46) (v := .bool true) rfl rfl (by kernel_rfl) (by kernel_rfl) (by kernel_rfl) (fun _ _ _ h => h) (by rfl) (fun W _ => by have heq := eq_q3 xb xo xh xb xo xh; go_simp) hHeld ?_
    simp only [Act.put, List.setIfInBounds_toArray, List.set_cons_zero, List.set_cons_succ]
    refine held_take (i := 17) (d := 47) (v := .bool true) rfl rfl (by kernel_rfl) (by kernel_rfl) (by kernel_rfl) (fun _ _ _ h => h) (by rfl) (fun W _ => by go_simp) hHeld ?_
    simp only [Act.put, List.setIfInBounds_toArray, List.set_cons_zero, List.set_cons_succ]
    refine held_take (i := 18) (d := 6) (v := .bool true) rfl rfl (by kernel_rfl) (by kernel_rfl) (by kernel_rfl) (fun _ _ _ h => h) (by rfl) (fun W _ => by go_simp) hHeld ?_
    simp only [Act.put, List.setIfInBounds_toArray, List.set_cons_zero, List.set_cons_succ]
    refine wpAnyH_done (by kernel_rfl) ?_ _
    clear hHeld
    have HB := Lib.hid (HBK.out _ _ _ (HT4.out.mono (M := N + 4) (by omega)))
    clear HT0 HT1 HC1 HT2 HC2 HT3 HC3 HT4 HC4 HC0 HBK HTQ HC HZ
    go_wp2
    go_ret
    exact ⟨rfl, by rw [HF.out]; exact HB.out⟩
  · have t0 : (x0 % 8 == 0) = false := by simp; omega
    have t1 : (x0 % 8 == 1) = false := by simp; omega
    have t2 : (x0 % 8 == 2) = false := by simp; omega
    have t3 : (x0 % 8 == 3) = true := by simpa using hc
    have HF : Hid (F = subF (x1 % 4) ⟨qb, qo, qh⟩ f) := Lib.hid (by rw [HFF.out, if_neg (by omega), if_pos (by omega)])
    obtain ⟨E, hE⟩ : ∃ E, subE (f (x1 % 4)) ⟨qb, qo, qh⟩ = E := ⟨_, rfl⟩
    have HE := Lib.hid hE
    obtain ⟨⟨xb, xo, xh⟩, hx⟩ : ∃ x, subF (x1 % 4) ⟨qb, qo, qh⟩ f (x1 % 4) = x := ⟨_, rfl⟩
    have HX := Lib.hid hx
    clear hE hx hc HFF
    go_wp2_with fail
    generalize w2.alloc (.cells #[.int .i64 qb, .int .i64 qo, .int .i64 qh] 25) = wq at *
    generalize w2.heap.size = bq at *
    generalize w.heap.size = bx at *
    have HT0 := Lib.hid (HTQ.out.go (below_drewN (Below.refl wq.heap.size wq) 1))
    have HC0 : Hid (wq.drew.heap[bq]? = some (.cells #[.int .i64 qb, .int .i64 qo, .int .i64 qh] 25 (0, 0))) := HC
    refine wp_region_hand 19 (fun W => W.heap[bq]? = some (.cells #[.int .i64 qb, .int .i64 qo, .int .i64 qh] 25 (0, 0))) (by kernel_rfl) (by kernel_rfl) ?_
    rw [show Array.replicate 19 false = #[false, false, false, false, false, false, false, false, false, false, false, false, false, false, false, false, false, false, false] from rfl]
    have hHeld := HC0.out
    refine held_take (i := 0) (d := 30) (v := .pointer (some ⟨p, 0, none⟩)) rfl rfl (by kernel_rfl) (by kernel_rfl) (by kernel_rfl) (fun _ _ _ h => h) (by rfl) (fun W _ => run_move_is (.tmp 0) rfl rfl W) hHeld ?_
    simp only [Act.put, List.setIfInBounds_toArray, List.set_cons_zero, List.set_cons_succ]
    refine held_take (i := 1) (d := 31) (v := .int .i64 (x1 % 4)) rfl rfl (by kernel_rfl) (by kernel_rfl) (by kernel_rfl) (fun _ _ _ h => h) (by rfl) (fun W _ => run_move_is (.tmp 7) rfl rfl W) hHeld ?_
    simp only [Act.put, List.setIfInBounds_toArray, List.set_cons_zero, List.set_cons_succ]
    refine held_take (i := 2) (d := 32) (v := .agg #[.int .i64 qb, .int .i64 qo, .int .i64 qh]) rfl rfl (by kernel_rfl) (by kernel_rfl) (by kernel_rfl) (fun _ _ _ h => h) (by rfl) (fun W hS => by obtain ⟨g0, g1, g2⟩ := cells3 hS; go_simp) hHeld ?_
    simp only [Act.put, List.setIfInBounds_toArray, List.set_cons_zero, List.set_cons_succ]
    refine held_take (i := 4) (d := 34) (v := .pointer (some ⟨m, 0, none⟩)) rfl rfl (by kernel_rfl) (by kernel_rfl) (by kernel_rfl) (fun _ _ _ h => h) (by rfl) (fun W _ => run_move_is (.tmp 1) rfl rfl W) hHeld ?_
    simp only [Act.put, List.setIfInBounds_toArray, List.set_cons_zero, List.set_cons_succ]
    refine held_take (i := 5) (d := 35) (v := .int .i64 (x1 % 4)) rfl rfl (by kernel_rfl) (by kernel_rfl) (by kernel_rfl) (fun _ _ _ h => h) (by rfl) (fun W _ => run_move_is (.tmp 7) rfl rfl W) hHeld ?_
    simp only [Act.put, List.setIfInBounds_toArray, List.set_cons_zero, List.set_cons_succ]
    refine held_take (i := 6) (d := 36) (v := .agg #[.int .i64 qb, .int .i64 qo, .int .i64 qh]) rfl rfl (by kernel_rfl) (by kernel_rfl) (by kernel_rfl) (fun _ _ _ h => h) (by rfl) (fun W hS => by obtain ⟨g0, g1, g2⟩ := cells3 hS; go_simp) hHeld ?_
    simp only [Act.put, List.setIfInBounds_toArray, List.set_cons_zero, List.set_cons_succ]
    have HCL := Lib.hid (HT0.out.subL' HL.out HRZ.out (by omega) HQI.out HE.out)
    refine held_one (i := 3) (by kernel_rfl) ?_
    refine held_callX (d := 33) rfl rfl (by rfl) rfl (by kernel_rfl) Try.func17 (by kernel_rfl) HCL.out ?_
    rintro e v1 ⟨rfl, hT1⟩
    have HT1 := Lib.hid hT1
    have HC1 : Hid (v1.heap[bq]? = some (.cells #[.int .i64 qb, .int .i64 qo, .int .i64 qh] 25 (0, 0))) := Lib.hid (hT1.kz.heap HZ.out HC.out)
    clear hT1
    refine ⟨_, rfl, ?_⟩
    clear HCL hHeld
    have hHeld := HC1.out
    refine ⟨hHeld, ?_⟩
    simp only [Act.put, List.setIfInBounds_toArray, List.set_cons_zero, List.set_cons_succ]
    have HCL := Lib.hid (HT1.out.subR' HL.out HQI.out (by omega) HE.out)
    refine held_one (i := 7) (by kernel_rfl) ?_
    refine held_callX (d := 37) rfl rfl (by rfl) rfl (by kernel_rfl) Try.func18 (by kernel_rfl) HCL.out ?_
    rintro e v2 ⟨rfl, hT2⟩
    have HT2 := Lib.hid hT2
    have HC2 : Hid (v2.heap[bq]? = some (.cells #[.int .i64 qb, .int .i64 qo, .int .i64 qh] 25 (0, 0))) := Lib.hid (hT2.kz.heap HZ.out HC.out)
    clear hT2
    refine ⟨_, rfl, ?_⟩
    clear HCL hHeld
    have hHeld := HC2.out
    refine ⟨hHeld, ?_⟩
    simp only [Act.put, List.setIfInBounds_toArray, List.set_cons_zero, List.set_cons_succ]
    refine held_take (i := 8) (d := 38) (v := .bool true) rfl rfl (by kernel_rfl) (by kernel_rfl) (by kernel_rfl) (fun _ _ _ h => h) (by rfl) (fun W _ => by go_simp) hHeld ?_
    simp only [Act.put, List.setIfInBounds_toArray, List.set_cons_zero, List.set_cons_succ]
    refine held_take (i := 9) (d := 39) (v := .bool true) rfl rfl (by kernel_rfl) (by kernel_rfl) (by kernel_rfl) (fun _ _ _ h => h) (by rfl) (fun W _ => run_move_is (.tmp 38) rfl rfl W) hHeld ?_
    simp only [Act.put, List.setIfInBounds_toArray, List.set_cons_zero, List.set_cons_succ]
    refine held_take (i := 10) (d := 40) (v := .pointer (some ⟨p, 0, none⟩)) rfl rfl (by kernel_rfl) (by kernel_rfl) (by kernel_rfl) (fun _ _ _ h => h) (by rfl) (fun W _ => run_move_is (.tmp 0) rfl rfl W) hHeld ?_
    simp only [Act.put, List.setIfInBounds_toArray, List.set_cons_zero, List.set_cons_succ]
    refine held_take (i := 11) (d := 41) (v := .int .i64 (x1 % 4)) rfl rfl (by kernel_rfl) (by kernel_rfl) (by kernel_rfl) (fun _ _ _ h => h) (by rfl) (fun W _ => run_move_is (.tmp 7) rfl rfl W) hHeld ?_
    simp only [Act.put, List.setIfInBounds_toArray, List.set_cons_zero, List.set_cons_succ]
    refine held_take (i := 13) (d := 43) (v := .pointer (some ⟨m, 0, none⟩)) rfl rfl (by kernel_rfl) (by kernel_rfl) (by kernel_rfl) (fun _ _ _ h => h) (by rfl) (fun W _ => run_move_is (.tmp 1) rfl rfl W) hHeld ?_
    simp only [Act.put, List.setIfInBounds_toArray, List.set_cons_zero, List.set_cons_succ]
    refine held_take (i := 14) (d := 44) (v := .int .i64 (x1 % 4)) rfl rfl (by kernel_rfl) (by kernel_rfl) (by kernel_rfl) (fun _ _ _ h => h) (by rfl) (fun W _ => run_move_is (.tmp 7) rfl rfl W) hHeld ?_
    simp only [Act.put, List.setIfInBounds_toArray, List.set_cons_zero, List.set_cons_succ]
    have HCL := Lib.hid (HT2.out.getL' HRZ.out HX.out)
    refine held_one (i := 12) (by kernel_rfl) ?_
    refine held_callX (d := 42) rfl rfl (by rfl) rfl (by kernel_rfl) Try.func10 (by kernel_rfl) HCL.out ?_
    rintro e v3 ⟨rfl, hT3⟩
    have HT3 := Lib.hid hT3
    have HC3 : Hid (v3.heap[bq]? = some (.cells #[.int .i64 qb, .int .i64 qo, .int .i64 qh] 25 (0, 0))) := Lib.hid (hT3.kz.heap HZ.out HC.out)
    clear hT3
    refine ⟨_, rfl, ?_⟩
    clear HCL hHeld
    have hHeld := HC3.out
    refine ⟨hHeld, ?_⟩
    simp only [Act.put, List.setIfInBounds_toArray, List.set_cons_zero, List.set_cons_succ]
    have HCL := Lib.hid (HT3.out.getR' HX.out)
    refine held_one (i := 15) (by kernel_rfl) ?_
    refine held_callX (d := 45) rfl rfl (by rfl) rfl (by kernel_rfl) Try.func11 (by kernel_rfl) HCL.out ?_
    rintro e v4 ⟨rfl, hT4⟩
    have HT4 := Lib.hid hT4
    have HC4 : Hid (v4.heap[bq]? = some (.cells #[.int .i64 qb, .int .i64 qo, .int .i64 qh] 25 (0, 0))) := Lib.hid (hT4.kz.heap HZ.out HC.out)
    clear hT4
    refine ⟨_, rfl, ?_⟩
    clear HCL hHeld
    have hHeld := HC4.out
    refine ⟨hHeld, ?_⟩
    simp only [Act.put, List.setIfInBounds_toArray, List.set_cons_zero, List.set_cons_succ]
    refine held_take (i := 16) (d := 46) (v := .bool true) rfl rfl (by kernel_rfl) (by kernel_rfl) (by kernel_rfl) (fun _ _ _ h => h) (by rfl) (fun W _ => by have heq := eq_q3 xb xo xh xb xo xh; go_simp) hHeld ?_
    simp only [Act.put, List.setIfInBounds_toArray, List.set_cons_zero, List.set_cons_succ]
    refine held_take (i := 17) (d := 47) (v := .bool true) rfl rfl (by kernel_rfl) (by kernel_rfl) (by kernel_rfl) (fun _ _ _ h => h) (by rfl) (fun W _ => by go_simp) hHeld ?_
    simp only [Act.put, List.setIfInBounds_toArray, List.set_cons_zero, List.set_cons_succ]
    refine held_take (i := 18) (d := 6) (v := .bool true) rfl rfl (by kernel_rfl) (by kernel_rfl) (by kernel_rfl) (fun _ _ _ h => h) (by rfl) (fun W _ => by go_simp) hHeld ?_
    simp only [Act.put, List.setIfInBounds_toArray, List.set_cons_zero, List.set_cons_succ]
    refine wpAnyH_done (by kernel_rfl) ?_ _
    clear hHeld
    have HB := Lib.hid (HBK.out _ _ _ (HT4.out.mono (M := N + 4) (by omega)))
    clear HT0 HT1 HC1 HT2 HC2 HT3 HC3 HT4 HC4 HC0 HBK HTQ HC HZ
    go_wp2
    go_ret
    exact ⟨rfl, by rw [HF.out]; exact HB.out⟩
  · have t0 : (x0 % 8 == 0) = false := by simp; omega
    have t1 : (x0 % 8 == 1) = false := by simp; omega
    have t2 : (x0 % 8 == 2) = false := by simp; omega
    have t3 : (x0 % 8 == 3) = false := by simp; omega
    have HF : Hid (F = addF l (x1 % 4) ⟨qb, qo, qh⟩ f) := Lib.hid (by rw [HFF.out, if_neg (by omega), if_neg (by omega)])
    obtain ⟨E, hE⟩ : ∃ E, fitE l (f (x1 % 4)) ⟨qb, qo, qh⟩ = E := ⟨_, rfl⟩
    have HE := Lib.hid hE
    obtain ⟨⟨xb, xo, xh⟩, hx⟩ : ∃ x, addF l (x1 % 4) ⟨qb, qo, qh⟩ f (x1 % 4) = x := ⟨_, rfl⟩
    have HX := Lib.hid hx
    clear hE hx hc HFF
    go_wp2_with fail
    generalize w2.alloc (.cells #[.int .i64 qb, .int .i64 qo, .int .i64 qh] 25) = wq at *
    generalize w2.heap.size = bq at *
    generalize w.heap.size = bx at *
    have HT0 := Lib.hid (HTQ.out.go (below_drewN (Below.refl wq.heap.size wq) 1))
    have HC0 : Hid (wq.drew.heap[bq]? = some (.cells #[.int .i64 qb, .int .i64 qo, .int .i64 qh] 25 (0, 0))) := HC
    refine wp_region_hand 30 (fun W => W.heap[bq]? = some (.cells #[.int .i64 qb, .int .i64 qo, .int .i64 qh] 25 (0, 0))) (by kernel_rfl) (by kernel_rfl) ?_
    rw [show Array.replicate 30 false = #[false, false, false, false, false, false, false, false, false, false, false, false, false, false, false, false, false, false, false, false, false, false, false, false, false, false, false, false, false, false] from rfl]
    have hHeld := HC0.out
    refine held_take (i := 0) (d := 48) (v := .pointer (some ⟨p, 0, none⟩)) rfl rfl (by kernel_rfl) (by kernel_rfl) (by kernel_rfl) (fun _ _ _ h => h) (by rfl) (fun W _ => run_move_is (.tmp 0) rfl rfl W) hHeld ?_
    simp only [Act.put, List.setIfInBounds_toArray, List.set_cons_zero, List.set_cons_succ]
    refine held_take (i := 1) (d := 49) (v := .int .i64 (x1 % 4)) rfl rfl (by kernel_rfl) (by kernel_rfl) (by kernel_rfl) (fun _ _ _ h => h) (by rfl) (fun W _ => run_move_is (.tmp 7) rfl rfl W) hHeld ?_
    simp only [Act.put, List.setIfInBounds_toArray, List.set_cons_zero, List.set_cons_succ]
    refine held_take (i := 2) (d := 50) (v := .agg #[.int .i64 qb, .int .i64 qo, .int .i64 qh]) rfl rfl (by kernel_rfl) (by kernel_rfl) (by kernel_rfl) (fun _ _ _ h => h) (by rfl) (fun W hS => by obtain ⟨g0, g1, g2⟩ := cells3 hS; go_simp) hHeld ?_
    simp only [Act.put, List.setIfInBounds_toArray, List.set_cons_zero, List.set_cons_succ]
    refine held_take (i := 4) (d := 52) (v := .pointer (some ⟨m, 0, none⟩)) rfl rfl (by kernel_rfl) (by kernel_rfl) (by kernel_rfl) (fun _ _ _ h => h) (by rfl) (fun W _ => run_move_is (.tmp 1) rfl rfl W) hHeld ?_
    simp only [Act.put, List.setIfInBounds_toArray, List.set_cons_zero, List.set_cons_succ]
    refine held_take (i := 5) (d := 53) (v := .int .i64 (x1 % 4)) rfl rfl (by kernel_rfl) (by kernel_rfl) (by kernel_rfl) (fun _ _ _ h => h) (by rfl) (fun W _ => run_move_is (.tmp 7) rfl rfl W) hHeld ?_
    simp only [Act.put, List.setIfInBounds_toArray, List.set_cons_zero, List.set_cons_succ]
    refine held_take (i := 6) (d := 54) (v := .agg #[.int .i64 qb, .int .i64 qo, .int .i64 qh]) rfl rfl (by kernel_rfl) (by kernel_rfl) (by kernel_rfl) (fun _ _ _ h => h) (by rfl) (fun W hS => by obtain ⟨g0, g1, g2⟩ := cells3 hS; go_simp) hHeld ?_
    simp only [Act.put, List.setIfInBounds_toArray, List.set_cons_zero, List.set_cons_succ]
    have HCL := Lib.hid (HT0.out.fitsL' HL.out HRZ.out HE.out)
    refine held_one (i := 3) (by kernel_rfl) ?_
    refine held_callX (d := 51) rfl rfl (by rfl) rfl (by kernel_rfl) Try.func13 (by kernel_rfl) HCL.out ?_
    rintro e v1 ⟨rfl, hT1⟩
    have HT1 := Lib.hid hT1
    have HC1 : Hid (v1.heap[bq]? = some (.cells #[.int .i64 qb, .int .i64 qo, .int .i64 qh] 25 (0, 0))) := Lib.hid (hT1.kz.heap HZ.out HC.out)
    clear hT1
    refine ⟨_, rfl, ?_⟩
    clear HCL hHeld
    have hHeld := HC1.out
    refine ⟨hHeld, ?_⟩
    simp only [Act.put, List.setIfInBounds_toArray, List.set_cons_zero, List.set_cons_succ]
    have HCL := Lib.hid (HT1.out.fitsR' HL.out HQI.out HE.out)
    refine held_one (i := 7) (by kernel_rfl) ?_
    refine held_callX (d := 55) rfl rfl (by rfl) rfl (by kernel_rfl) Try.func14 (by kernel_rfl) HCL.out ?_
    rintro e v2 ⟨rfl, hT2⟩
    have HT2 := Lib.hid hT2
    have HC2 : Hid (v2.heap[bq]? = some (.cells #[.int .i64 qb, .int .i64 qo, .int .i64 qh] 25 (0, 0))) := Lib.hid (hT2.kz.heap HZ.out HC.out)
    clear hT2
    refine ⟨_, rfl, ?_⟩
    clear HCL hHeld
    have hHeld := HC2.out
    refine ⟨hHeld, ?_⟩
    simp only [Act.put, List.setIfInBounds_toArray, List.set_cons_zero, List.set_cons_succ]
    refine held_take (i := 8) (d := 56) (v := .bool true) rfl rfl (by kernel_rfl) (by kernel_rfl) (by kernel_rfl) (fun _ _ _ h => h) (by rfl) (fun W _ => by go_simp) hHeld ?_
    simp only [Act.put, List.setIfInBounds_toArray, List.set_cons_zero, List.set_cons_succ]
    refine held_take (i := 9) (d := 57) (v := .bool true) rfl rfl (by kernel_rfl) (by kernel_rfl) (by kernel_rfl) (fun _ _ _ h => h) (by rfl) (fun W _ => run_move_is (.tmp 56) rfl rfl W) hHeld ?_
    simp only [Act.put, List.setIfInBounds_toArray, List.set_cons_zero, List.set_cons_succ]
    refine held_take (i := 10) (d := 58) (v := .pointer (some ⟨p, 0, none⟩)) rfl rfl (by kernel_rfl) (by kernel_rfl) (by kernel_rfl) (fun _ _ _ h => h) (by rfl) (fun W _ => run_move_is (.tmp 0) rfl rfl W) hHeld ?_
    simp only [Act.put, List.setIfInBounds_toArray, List.set_cons_zero, List.set_cons_succ]
    refine held_take (i := 11) (d := 59) (v := .int .i64 (x1 % 4)) rfl rfl (by kernel_rfl) (by kernel_rfl) (by kernel_rfl) (fun _ _ _ h => h) (by rfl) (fun W _ => run_move_is (.tmp 7) rfl rfl W) hHeld ?_
    simp only [Act.put, List.setIfInBounds_toArray, List.set_cons_zero, List.set_cons_succ]
    refine held_take (i := 12) (d := 60) (v := .agg #[.int .i64 qb, .int .i64 qo, .int .i64 qh]) rfl rfl (by kernel_rfl) (by kernel_rfl) (by kernel_rfl) (fun _ _ _ h => h) (by rfl) (fun W hS => by obtain ⟨g0, g1, g2⟩ := cells3 hS; go_simp) hHeld ?_
    simp only [Act.put, List.setIfInBounds_toArray, List.set_cons_zero, List.set_cons_succ]
    refine held_take (i := 14) (d := 62) (v := .pointer (some ⟨m, 0, none⟩)) rfl rfl (by kernel_rfl) (by kernel_rfl) (by kernel_rfl) (fun _ _ _ h => h) (by rfl) (fun W _ => run_move_is (.tmp 1) rfl rfl W) hHeld ?_
    simp only [Act.put, List.setIfInBounds_toArray, List.set_cons_zero, List.set_cons_succ]
    refine held_take (i := 15) (d := 63) (v := .int .i64 (x1 % 4)) rfl rfl (by kernel_rfl) (by kernel_rfl) (by kernel_rfl) (fun _ _ _ h => h) (by rfl) (fun W _ => run_move_is (.tmp 7) rfl rfl W) hHeld ?_
    simp only [Act.put, List.setIfInBounds_toArray, List.set_cons_zero, List.set_cons_succ]
    refine held_take (i := 16) (d := 64) (v := .agg #[.int .i64 qb, .int .i64 qo, .int .i64 qh]) rfl rfl (by kernel_rfl) (by kernel_rfl) (by kernel_rfl) (fun _ _ _ h => h) (by rfl) (fun W hS => by obtain ⟨g0, g1, g2⟩ := cells3 hS; go_simp) hHeld ?_
    simp only [Act.put, List.setIfInBounds_toArray, List.set_cons_zero, List.set_cons_succ]
    have HCL := Lib.hid (HT2.out.addL' HL.out HRZ.out (by omega) HE.out)
    refine held_one (i := 13) (by kernel_rfl) ?_
    refine held_callX (d := 61) rfl rfl (by rfl) rfl (by kernel_rfl) Try.func15 (by kernel_rfl) HCL.out ?_
    rintro e v3 ⟨rfl, hT3⟩
    have HT3 := Lib.hid hT3
    have HC3 : Hid (v3.heap[bq]? = some (.cells #[.int .i64 qb, .int .i64 qo, .int .i64 qh] 25 (0, 0))) := Lib.hid (hT3.kz.heap HZ.out HC.out)
    clear hT3
    refine ⟨_, rfl, ?_⟩
    clear HCL hHeld
    have hHeld := HC3.out
    refine ⟨hHeld, ?_⟩
    simp only [Act.put, List.setIfInBounds_toArray, List.set_cons_zero, List.set_cons_succ]
    have HCL := Lib.hid (HT3.out.addR' HL.out HQI.out (by omega) HE.out)
    refine held_one (i := 17) (by kernel_rfl) ?_
    refine held_callX (d := 65) rfl rfl (by rfl) rfl (by kernel_rfl) Try.func16 (by kernel_rfl) HCL.out ?_
    rintro e v4 ⟨rfl, hT4⟩
    have HT4 := Lib.hid hT4
    have HC4 : Hid (v4.heap[bq]? = some (.cells #[.int .i64 qb, .int .i64 qo, .int .i64 qh] 25 (0, 0))) := Lib.hid (hT4.kz.heap HZ.out HC.out)
    clear hT4
    refine ⟨_, rfl, ?_⟩
    clear HCL hHeld
    have hHeld := HC4.out
    refine ⟨hHeld, ?_⟩
    simp only [Act.put, List.setIfInBounds_toArray, List.set_cons_zero, List.set_cons_succ]
    refine held_take (i := 18) (d := 66) (v := .bool true) rfl rfl (by kernel_rfl) (by kernel_rfl) (by kernel_rfl) (fun _ _ _ h => h) (by rfl) (fun W _ => by go_simp) hHeld ?_
    simp only [Act.put, List.setIfInBounds_toArray, List.set_cons_zero, List.set_cons_succ]
    refine held_take (i := 19) (d := 67) (v := .bool true) rfl rfl (by kernel_rfl) (by kernel_rfl) (by kernel_rfl) (fun _ _ _ h => h) (by rfl) (fun W _ => by go_simp) hHeld ?_
    simp only [Act.put, List.setIfInBounds_toArray, List.set_cons_zero, List.set_cons_succ]
    refine held_take (i := 20) (d := 68) (v := .bool true) rfl rfl (by kernel_rfl) (by kernel_rfl) (by kernel_rfl) (fun _ _ _ h => h) (by rfl) (fun W _ => run_move_is (.tmp 67) rfl rfl W) hHeld ?_
    simp only [Act.put, List.setIfInBounds_toArray, List.set_cons_zero, List.set_cons_succ]
    refine held_take (i := 21) (d := 69) (v := .pointer (some ⟨p, 0, none⟩)) rfl rfl (by kernel_rfl) (by kernel_rfl) (by kernel_rfl) (fun _ _ _ h => h) (by rfl) (fun W _ => run_move_is (.tmp 0) rfl rfl W) hHeld ?_
    simp only [Act.put, List.setIfInBounds_toArray, List.set_cons_zero, List.set_cons_succ]
    refine held_take (i := 22) (d := 70) (v := .int .i64 (x1 % 4)) rfl rfl (by kernel_rfl) (by kernel_rfl) (by kernel_rfl) (fun _ _ _ h => h) (by rfl) (fun W _ => run_move_is (.tmp 7) rfl rfl W) hHeld ?_
    simp only [Act.put, List.setIfInBounds_toArray, List.set_cons_zero, List.set_cons_succ]
    refine held_take (i := 24) (d := 72) (v := .pointer (some ⟨m, 0, none⟩)) rfl rfl (by kernel_rfl) (by kernel_rfl) (by kernel_rfl) (fun _ _ _ h => h) (by rfl) (fun W _ => run_move_is (.tmp 1) rfl rfl W) hHeld ?_
    simp only [Act.put, List.setIfInBounds_toArray, List.set_cons_zero, List.set_cons_succ]
    refine held_take (i := 25) (d := 73) (v := .int .i64 (x1 % 4)) rfl rfl (by kernel_rfl) (by kernel_rfl) (by kernel_rfl) (fun _ _ _ h => h) (by rfl) (fun W _ => run_move_is (.tmp 7) rfl rfl W) hHeld ?_
    simp only [Act.put, List.setIfInBounds_toArray, List.set_cons_zero, List.set_cons_succ]
    have HCL := Lib.hid (HT4.out.getL' HRZ.out HX.out)
    refine held_one (i := 23) (by kernel_rfl) ?_
    refine held_callX (d := 71) rfl rfl (by rfl) rfl (by kernel_rfl) Try.func10 (by kernel_rfl) HCL.out ?_
    rintro e v5 ⟨rfl, hT5⟩
    have HT5 := Lib.hid hT5
    have HC5 : Hid (v5.heap[bq]? = some (.cells #[.int .i64 qb, .int .i64 qo, .int .i64 qh] 25 (0, 0))) := Lib.hid (hT5.kz.heap HZ.out HC.out)
    clear hT5
    refine ⟨_, rfl, ?_⟩
    clear HCL hHeld
    have hHeld := HC5.out
    refine ⟨hHeld, ?_⟩
    simp only [Act.put, List.setIfInBounds_toArray, List.set_cons_zero, List.set_cons_succ]
    have HCL := Lib.hid (HT5.out.getR' HX.out)
    refine held_one (i := 26) (by kernel_rfl) ?_
    refine held_callX (d := 74) rfl rfl (by rfl) rfl (by kernel_rfl) Try.func11 (by kernel_rfl) HCL.out ?_
    rintro e v6 ⟨rfl, hT6⟩
    have HT6 := Lib.hid hT6
    have HC6 : Hid (v6.heap[bq]? = some (.cells #[.int .i64 qb, .int .i64 qo, .int .i64 qh] 25 (0, 0))) := Lib.hid (hT6.kz.heap HZ.out HC.out)
    clear hT6
    refine ⟨_, rfl, ?_⟩
    clear HCL hHeld
    have hHeld := HC6.out
    refine ⟨hHeld, ?_⟩
    simp only [Act.put, List.setIfInBounds_toArray, List.set_cons_zero, List.set_cons_succ]
    refine held_take (i := 27) (d := 75) (v := .bool true) rfl rfl (by kernel_rfl) (by kernel_rfl) (by kernel_rfl) (fun _ _ _ h => h) (by rfl) (fun W _ => by have heq := eq_q3 xb xo xh xb xo xh; go_simp) hHeld ?_
    simp only [Act.put, List.setIfInBounds_toArray, List.set_cons_zero, List.set_cons_succ]
    refine held_take (i := 28) (d := 76) (v := .bool true) rfl rfl (by kernel_rfl) (by kernel_rfl) (by kernel_rfl) (fun _ _ _ h => h) (by rfl) (fun W _ => by go_simp) hHeld ?_
    simp only [Act.put, List.setIfInBounds_toArray, List.set_cons_zero, List.set_cons_succ]
    refine held_take (i := 29) (d := 6) (v := .bool true) rfl rfl (by kernel_rfl) (by kernel_rfl) (by kernel_rfl) (fun _ _ _ h => h) (by rfl) (fun W _ => by go_simp) hHeld ?_
    simp only [Act.put, List.setIfInBounds_toArray, List.set_cons_zero, List.set_cons_succ]
    refine wpAnyH_done (by kernel_rfl) ?_ _
    clear hHeld
    have HB := Lib.hid (HBK.out _ _ _ (HT6.out.mono (M := N + 4) (by omega)))
    clear HT0 HT1 HC1 HT2 HC2 HT3 HC3 HT4 HC4 HT5 HC5 HT6 HC6 HC0 HBK HTQ HC HZ
    go_wp2
    go_ret
    exact ⟨rfl, by rw [HF.out]; exact HB.out⟩
theorem Ts.step {w0 w : World} {c0 : Nat → Nat} {N p m : Nat} {l : Q3} {f : Int → Q3} (H : Ts w0 c0 N p m l f f w) (hl : l.In) (hN : N < 90000) (x0 x1 x2 x3 x4 : Int) (h0 : 0 ≤ x0 ∧ x0 ≤ 255) (h1 : 0 ≤ x1 ∧ x1 ≤ 255) (h2 : 0 ≤ x2 ∧ x2 ≤ 255) (h3 : 0 ≤ x3 ∧ x3 ≤ 255) (h4 : 0 ≤ x4 ∧ x4 ≤ 255) :
    Calls Try.prog 9 #[.pointer (some ⟨p, 0, none⟩), .pointer (some ⟨m, 0, none⟩), .agg #[.int .u8 x0, .int .u8 x1, .int .u8 x2, .int .u8 x3, .int .u8 x4]] w fun e w' => e = .returned (.bool true) ∧ Ts w0 c0 (N + 4) p m l (stpF l x0 (x1 % 4) (amt x2 x3 x4) f) (stpF l x0 (x1 % 4) (amt x2 x3 x4) f) w' := by
  obtain ⟨c1, hT, _, hback⟩ := H.base (Below.refl w.heap.size w)
  exact (step15_any w c1 N p m l f x0 x1 x2 x3 x4 hT hl hN h0 h1 h2 h3 h4).mono fun e w' ⟨he, h⟩ => ⟨he, hback h⟩
end Go.Proofs.Ytfhpdjlppblkcaa
