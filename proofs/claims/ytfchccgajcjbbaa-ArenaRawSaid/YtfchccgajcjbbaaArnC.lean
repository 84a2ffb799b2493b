/-
  Contract of the arena's method Copy. Conditions: at most nine hundred allocated extents.
-/
import Derived.Test.YtfchccgajcjbbaaArn
namespace Go.Proofs.Ytfchccgajcjbbaa
open Go.ChangeShapes Go.WideShapes Go.ChangeAt Go.RowKit
set_option maxHeartbeats 4000000
set_option maxRecDepth 100000

/-- What Copy says, and what it makes of the bytes. -/
noncomputable def cpC (A : List (Int × Int)) (x y to u v fr n : Int) : Int := if (x, y) ∈ A ∧ (u, v) ∈ A then if n < 0 then 1 else if wi to n y = true ∧ wi fr n v = true then 0 else 7 else 6
noncomputable def cpB (A : List (Int × Int)) (bs : List Int) (x y to u v fr n : Int) : List Int := if cpC A x y to u v fr n = 0 then pt bs (x + to).toNat ((bs.drop (u + fr).toNat).take n.toNat) else bs
section
variable {A : List (Int × Int)} {bs : List Int} {x y to u v fr n : Int}
theorem cp6 (h : ¬ ((x, y) ∈ A ∧ (u, v) ∈ A)) : cpC A x y to u v fr n = 6 ∧ cpB A bs x y to u v fr n = bs := by
  have h1 : cpC A x y to u v fr n = 6 := if_neg h
  exact ⟨h1, by unfold cpB; rw [h1, if_neg (by omega)]⟩
theorem cp1 (h : (x, y) ∈ A ∧ (u, v) ∈ A) (hn : n < 0) : cpC A x y to u v fr n = 1 ∧ cpB A bs x y to u v fr n = bs := by
  have h1 : cpC A x y to u v fr n = 1 := by unfold cpC; rw [if_pos h, if_pos hn]
  exact ⟨h1, by unfold cpB; rw [h1, if_neg (by omega)]⟩
theorem cp7 (h : (x, y) ∈ A ∧ (u, v) ∈ A) (hn : ¬ n < 0) (hw : ¬ (wi to n y = true ∧ wi fr n v = true)) : cpC A x y to u v fr n = 7 ∧ cpB A bs x y to u v fr n = bs := by
  have h1 : cpC A x y to u v fr n = 7 := by unfold cpC; rw [if_pos h, if_neg hn, if_neg hw]
  exact ⟨h1, by unfold cpB; rw [h1, if_neg (by omega)]⟩
theorem cp0 (h : (x, y) ∈ A ∧ (u, v) ∈ A) (hn : ¬ n < 0) (hw : wi to n y = true ∧ wi fr n v = true) : cpC A x y to u v fr n = 0 ∧ cpB A bs x y to u v fr n = pt bs (x + to).toNat ((bs.drop (u + fr).toNat).take n.toNat) := by
  have h1 : cpC A x y to u v fr n = 0 := by unfold cpC; rw [if_pos h, if_neg hn, if_pos hw]
  exact ⟨h1, by unfold cpB; rw [h1, if_pos rfl]⟩
end

theorem copy_any (c : Nat → Nat) (a p g : Nat) (F A : List (Int × Int)) (bs : List Int) (x y to u v fr n : Int) (w : World) (h : Arn w c a p g F A bs) (hv : Gd bs.length F A) (hA : A.length ≤ 900) (hn : n ≤ 9223372036854775807) :
    Calls Try.prog 20 #[.pointer (some ⟨a, 0, none⟩), .agg #[.int .i64 x, .int .i64 y], .int .i64 to, .agg #[.int .i64 u, .int .i64 v], .int .i64 fr, .int .i64 n] w (PrE w c a p g F A (cpB A bs x y to u v fr n) (.int .i64 (cpC A x y to u v fr n))) := by
  have hb0 : Below w.heap.size w (w.alloc (.cells #[.int .i64 x, .int .i64 y] 31)) := (Below.refl _ _).alloc (Nat.le_refl _) _
  have HBX := Lib.hid (Box.new (w := w) (x := x) (y := y))
  have HB0 := Lib.hid hb0
  have HR := Lib.hid (h.go hb0)
  have HV := Lib.hid hv
  have hsm := h.small
  have HIN := Lib.hid (fun hm => in_bd hv (x := x) (y := y) hm)
  have HIN2 := Lib.hid (fun hm => in_bd hv (x := u) (y := v) hm)
  have hcg := h.cg
  clear h hb0 hv
  go_enter Try.func20, Try.ntmps20
  go_wp2
  have hz : (w.alloc (.cells #[.int .i64 x, .int .i64 y] 31)).heap.size = w.heap.size + 1 := by simp
  generalize w.alloc (.cells #[.int .i64 x, .int .i64 y] 31) = w0 at *
  have hb1 : Below w0.heap.size w0 (w0.alloc (.cells #[.int .i64 u, .int .i64 v] 31)) := (Below.refl _ _).alloc (Nat.le_refl _) _
  have HBY := Lib.hid (Box.new (w := w0) (x := u) (y := v))
  have HBX1 := Lib.hid (HBX.out.go hb1)
  have HB1 := Lib.hid (Below.then HB0.out hb1 (Nat.le_refl _))
  have HR1 := Lib.hid (HR.out.go hb1)
  clear hb1 HBX HB0 HR
  generalize w0.alloc (.cells #[.int .i64 u, .int .i64 v] 31) = w1 at *
  rw [hz] at HBY
  clear hz
  generalize w.heap.size + 1 = t at *
  have a1 : ∀ m : Later w1, m.val.cell? ⟨w.heap.size, 0, none⟩ = some (.int .i64 x) := fun m => later_old m HBX1.out.cell0
  have a2 : ∀ m : Later w1, m.val.cell? ⟨w.heap.size, 1, none⟩ = some (.int .i64 y) := fun m => later_old m HBX1.out.cell1
  have a3 : ∀ m : Later w1, m.val.cell? ⟨t, 0, none⟩ = some (.int .i64 u) := fun m => later_old m HBY.out.cell0
  have a4 : ∀ m : Later w1, m.val.cell? ⟨t, 1, none⟩ = some (.int .i64 v) := fun m => later_old m HBY.out.cell1
  have H1 := Lib.hid (fun m : Later w1 => parts_any m.val (HR1.out.go m.2))
  have H2 := Lib.hid (fun m : Later w1 => has_alc c 1 p F A _ x y m.val (HR1.out.go m.2).al HV.out (by omega))
  have H3 := Lib.hid (fun m : Later w1 => has_alc c 1 p F A _ u v m.val (HR1.out.go m.2).al HV.out (by omega))
  generalize hd : decide ((x, y) ∈ A) = d at *
  generalize he : decide ((u, v) ∈ A) = e0 at *
  have HD := Lib.hid hd
  have HE := Lib.hid he
  clear hd he
  cases d with
  | false =>
    have HC := Lib.hid (cp6 (bs := bs) (to := to) (fr := fr) (n := n) (u := u) (v := v) (fun h => of_decide_eq_false HD.out h.1))
    refine wp_region_later (by kernel_rfl) (by kernel_rfl) ?_
    repeat (go_big_quiet_step (first | (go_at_call 40; exact Calls.later (H1.out _)) | (go_at_call 41; exact Calls.later (H2.out _))))
    refine wpQuiet_nil ?_
    rintro w4 ⟨⟨_, hq⟩, rfl⟩
    have HB4 := Lib.hid (Below.then HB1.out hq (Nat.le_refl _))
    have HR4 := Lib.hid (HR1.out.go hq)
    clear hq H1 H2 H3 HB1 HBX1 HR1 a1 a2 a3 a4
    go_wp2
    go_ret
    rw [HC.out.1, HC.out.2]
    exact prE HR4.out (KS.ofBelow HB4.out) (fun _ _ => rfl)
  | true =>
    have HM := Lib.hid (of_decide_eq_true HD.out)
    obtain ⟨x0, y0, xy, y1⟩ := HIN.out HM.out
    cases e0 with
    | false =>
      have HC := Lib.hid (cp6 (bs := bs) (to := to) (fr := fr) (n := n) (x := x) (y := y) (fun h => of_decide_eq_false HE.out h.2))
      refine wp_region_later (by kernel_rfl) (by kernel_rfl) ?_
      repeat (go_big_quiet_step (first | (go_at_call 40; exact Calls.later (H1.out _)) | (go_at_call 41; first | (with_reducible exact Calls.later (H2.out _)) | (with_reducible exact Calls.later (H3.out _)))))
      refine wpQuiet_nil ?_
      rintro w4 ⟨⟨_, hq⟩, rfl⟩
      have HB4 := Lib.hid (Below.then HB1.out hq (Nat.le_refl _))
      have HR4 := Lib.hid (HR1.out.go hq)
      clear hq H1 H2 H3 HB1 HBX1 HR1 a1 a2 a3 a4
      go_wp2
      go_ret
      rw [HC.out.1, HC.out.2]
      exact prE HR4.out (KS.ofBelow HB4.out) (fun _ _ => rfl)
    | true =>
      have HN := Lib.hid (of_decide_eq_true HE.out)
      obtain ⟨u0, v0, uv, v1⟩ := HIN2.out HN.out
      refine wp_region_later (by kernel_rfl) (by kernel_rfl) ?_
      repeat (go_big_quiet_step (first | (go_at_call 40; exact Calls.later (H1.out _)) | (go_at_call 41; first | (with_reducible exact Calls.later (H2.out _)) | (with_reducible exact Calls.later (H3.out _)))))
      refine wpQuiet_nil ?_
      rintro w4 ⟨⟨_, hq⟩, rfl⟩
      have HB4 := Lib.hid (Below.then HB1.out hq (Nat.le_refl _))
      have HR4 := Lib.hid (HR1.out.go hq)
      have HX4 := Lib.hid (HBX1.out.go hq)
      have HY4 := Lib.hid (HBY.out.go hq)
      clear hq H1 H2 H3 HB1 HBX1 HR1 a1 a2 a3 a4 HBY
      by_cases hn0 : n < 0
      · have HC := Lib.hid (cp1 (bs := bs) (to := to) (fr := fr) ⟨HM.out, HN.out⟩ hn0)
        have dn : decide (n < 0) = true := decide_eq_true hn0
        go_wp2
        go_ret
        rw [HC.out.1, HC.out.2]
        exact prE HR4.out (KS.ofBelow HB4.out) (fun _ _ => rfl)
      · have dn : decide (n < 0) = false := decide_eq_false hn0
        have HW1 := Lib.hid (fun W => within_any x y to n W ⟨by omega, y1⟩ (by omega))
        have HW2 := Lib.hid (fun W => within_any u v fr n W ⟨by omega, v1⟩ (by omega))
        have HC7 := Lib.hid (fun h => cp7 (bs := bs) (to := to) (fr := fr) ⟨HM.out, HN.out⟩ hn0 h)
        have HC0 := Lib.hid (fun h => cp0 (bs := bs) (to := to) (fr := fr) ⟨HM.out, HN.out⟩ hn0 h)
        have HI1 := Lib.hid (fun h : wi to n y = true => wi_is h)
        have HI2 := Lib.hid (fun h : wi fr n v = true => wi_is h)
        generalize wi to n y = b1 at *
        generalize wi fr n v = b2 at *
        have g0 := HX4.out.cell0
        have g1 := HX4.out.cell1
        cases b1 with
        | false =>
          have HC := Lib.hid (HC7.out (by simp))
          go_wp2_with fail
          refine (HW1.out _).mono ?_
          rintro e w5 ⟨rfl, hb⟩
          have HB5 := Lib.hid (Below.then HB4.out hb (Nat.le_refl _))
          have HR5 := Lib.hid (HR4.out.go hb)
          clear hb HW1 HW2
          go_wp2
          go_ret
          rw [HC.out.1, HC.out.2]
          exact prE HR5.out (KS.ofBelow HB5.out) (fun _ _ => rfl)
        | true =>
          obtain ⟨t0, t1⟩ := HI1.out rfl
          go_wp2_with fail
          refine (HW1.out _).mono ?_
          rintro e w5 ⟨rfl, hb⟩
          have HB5 := Lib.hid (Below.then HB4.out hb (Nat.le_refl _))
          have HR5 := Lib.hid (HR4.out.go hb)
          have HX5 := Lib.hid (HX4.out.go hb)
          have HY5 := Lib.hid (HY4.out.go hb)
          clear hb HW1 HB4 HR4 HX4 HY4 g0 g1
          have g2 := HY5.out.cell0
          have g3 := HY5.out.cell1
          cases b2 with
          | false =>
            have HC := Lib.hid (HC7.out (by simp))
            go_wp2_with fail
            refine (HW2.out _).mono ?_
            rintro e w6 ⟨rfl, hb⟩
            have HB6 := Lib.hid (Below.then HB5.out hb (Nat.le_refl _))
            have HR6 := Lib.hid (HR5.out.go hb)
            clear hb HW2
            go_wp2
            go_ret
            rw [HC.out.1, HC.out.2]
            exact prE HR6.out (KS.ofBelow HB6.out) (fun _ _ => rfl)
          | true =>
            obtain ⟨f0, f1⟩ := HI2.out rfl
            have HC := Lib.hid (HC0.out (by simp))
            go_wp2_with fail
            refine (HW2.out _).mono ?_
            rintro e w6 ⟨rfl, hb⟩
            have HB6 := Lib.hid (Below.then HB5.out hb (Nat.le_refl _))
            have HR6 := Lib.hid (HR5.out.go hb)
            have HX6 := Lib.hid (HX5.out.go hb)
            have HY6 := Lib.hid (HY5.out.go hb)
            clear hb HW2 HB5 HR5 HX5 HY5 g2 g3
            have a1 : ∀ m : Later w6, m.val.cell? ⟨w.heap.size, 0, none⟩ = some (.int .i64 x) := fun m => later_old m HX6.out.cell0
            have a2 : ∀ m : Later w6, m.val.cell? ⟨w.heap.size, 1, none⟩ = some (.int .i64 y) := fun m => later_old m HX6.out.cell1
            have a3 : ∀ m : Later w6, m.val.cell? ⟨t, 0, none⟩ = some (.int .i64 u) := fun m => later_old m HY6.out.cell0
            have a4 : ∀ m : Later w6, m.val.cell? ⟨t, 1, none⟩ = some (.int .i64 v) := fun m => later_old m HY6.out.cell1
            have H1 := Lib.hid (fun m : Later w6 => view_is x y to n m.val (HR6.out.go m.2) x0 t0 (by omega) (by omega))
            have H2 := Lib.hid (fun m : Later w6 => view_is u v fr n m.val (HR6.out.go m.2) u0 f0 (by omega) (by omega))
            have ho1 : (x + to).toNat + n.toNat ≤ bs.length := by omega
            have ho2 : (u + fr).toNat + n.toNat ≤ bs.length := by omega
            have hq1 : 0 < n.toNat → vq bs.length (x + to).toNat = (x + to).toNat := fun hm => vq_is (m := n.toNat) ho1 hm
            have hq2 : 0 < n.toNat → vq bs.length (u + fr).toNat = (u + fr).toNat := fun hm => vq_is (m := n.toNat) ho2 hm
            generalize vq bs.length (x + to).toNat = q1 at *
            generalize vq bs.length (u + fr).toNat = q2 at *
            generalize (x + to).toNat = o1 at *
            generalize (u + fr).toNat = o2 at *
            generalize n.toNat = N at *
            generalize hcp1 : bs.length - o1 = cp1 at *
            generalize hcp2 : bs.length - o2 = cp2 at *
            have hQ : Hid (∀ W, Byt W g bs → ∃ r, (Builtin.copy_ #[40, 40] 3 #[.slice (some ⟨g, q1, none⟩) N cp1, .slice (some ⟨g, q2, none⟩) N cp2]).run Try.prog W = .ok r (W.setCells g o1 (iv .u8 ((bs.drop o2).take N)))) :=
              Lib.hid fun W hW => copy_run W 3 g q1 o1 N cp1 cp2 _ bs _ hW hq1 ho1 (by rw [← hcp2]; exact hW.sub hsm ho2 hq2)
            clear hq1 hq2 hcp1 hcp2
            go_wp2
            refine wp_region_later_tail 10 (by kernel_rfl) (by kernel_rfl) ?_
            simp only [List.take_succ_cons, List.take_zero, List.drop_succ_cons, List.drop_zero]
            repeat (go_big_quiet_step (first | (go_at_call 37; first | (with_reducible exact Calls.later (H1.out _)) | (with_reducible exact Calls.later (H2.out _)))))
            refine wpQuiet_nil ?_
            rintro w7 ⟨⟨_, hq⟩, rfl⟩
            have HB7 := Lib.hid (Below.then HB6.out hq (Nat.le_refl _))
            have HR7 := Lib.hid (HR6.out.go hq)
            obtain ⟨r, hrun⟩ := hQ.out w7 HR7.out.byt
            have HBT := Lib.hid (HR7.out.byt.sets (l := (bs.drop o2).take N) (o := o1))
            have HK : Hid (Kept c 4 w7 (w7.setCells g o1 (iv .u8 ((bs.drop o2).take N)))) := Lib.hid (Kept.sets hcg)
            generalize w7.setCells g o1 (iv .u8 ((bs.drop o2).take N)) = w8 at *
            clear hq H1 H2 HB6 HR6 HX6 HY6 a1 a2 a3 a4 hQ
            go_wp2
            go_ret
            rw [HC.out.1, HC.out.2]
            exact prE (HR7.out.wrote HK.out HBT.out pt_len (pt_fit HR7.out.fit (fit_sub HR7.out.fit _ _))) (KS.of ((Kept.ofBelow HB7.out).trans HK.out) (.inr rfl)) (fun _ _ => rfl)
end Go.Proofs.Ytfchccgajcjbbaa
