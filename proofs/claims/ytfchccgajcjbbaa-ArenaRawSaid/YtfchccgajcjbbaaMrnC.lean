/-
  Contracts of the model's Copy, Free and NewArena. Conditions: at most nine hundred allocated extents.
-/
import Derived.Test.YtfchccgajcjbbaaMrnW
import Derived.Test.YtfchccgajcjbbaaMrnD
namespace Go.Proofs.Ytfchccgajcjbbaa
open Go.ChangeShapes Go.WideShapes Go.ChangeAt Go.RowKit
set_option maxHeartbeats 4000000
set_option maxRecDepth 100000

theorem Own.ge {t : TypeId} {w : World} {base n cp : Nat} {A : Option Addr} {vs : List Value} (h : Own t w base (.slice A n cp) vs) : ∀ b o, A = some ⟨b, o, none⟩ → base ≤ b := by
  intro b o e
  rcases h.2 with ⟨h0, _⟩ | ⟨g, cap, cur, e', hb, _⟩
  · cases h0; cases e
  · cases e'; cases e; exact hb
theorem copyR_any (c : Nat → Nat) (q g : Nat) (U : List (Int × Int)) (bs : List Int) (x y to u v fr n : Int) (w : World) (h : Mrn w c q g U bs) (hi : Ins bs.length U) (hU : U.length ≤ 900) (hn : n ≤ 9223372036854775807) :
    Calls Try.prog 21 #[.pointer (some ⟨q, 0, none⟩), .agg #[.int .i64 x, .int .i64 y], .int .i64 to, .agg #[.int .i64 u, .int .i64 v], .int .i64 fr, .int .i64 n] w (MoE w c q g U (cpB U bs x y to u v fr n) (.int .i64 (cpC U x y to u v fr n))) := by
  have hb0 : Below w.heap.size w (w.alloc (.cells #[.int .i64 x, .int .i64 y] 31)) := (Below.refl _ _).alloc (Nat.le_refl _) _
  have HBX := Lib.hid (Box.new (w := w) (x := x) (y := y))
  have HB0 := Lib.hid hb0
  have HR := Lib.hid ((h.recol (c' := rc c w.heap.size 9) (fun _ hx => rc_old hx)).go hb0)
  have hsm := h.small
  have hqlt := h.lt
  have HIS := Lib.hid hi
  have HIN := Lib.hid (fun hm => hi x y hm)
  have HIN2 := Lib.hid (fun hm => hi u v hm)
  have HCC : Hid ((∀ z, z < w.heap.size → rc c w.heap.size 9 z = c z) ∧ ∀ z, w.heap.size ≤ z → rc c w.heap.size 9 z = 9) := Lib.hid ⟨fun z hz => rc_old hz, fun z hz => rc_new hz⟩
  generalize rc c w.heap.size 9 = c1 at *
  clear h hb0 hi
  go_enter Try.func21, Try.ntmps21
  go_wp2
  have hz : (w.alloc (.cells #[.int .i64 x, .int .i64 y] 31)).heap.size = w.heap.size + 1 := by simp
  generalize w.alloc (.cells #[.int .i64 x, .int .i64 y] 31) = w0 at *
  have hb1 : Below w0.heap.size w0 (w0.alloc (.cells #[.int .i64 u, .int .i64 v] 31)) := (Below.refl _ _).alloc (Nat.le_refl _) _
  have HBY := Lib.hid (Box.new (w := w0) (x := u) (y := v))
  have HBX1 := Lib.hid (HBX.out.go hb1)
  have HB1 := Lib.hid (Below.then HB0.out hb1 (Nat.le_refl _))
  have HR1 := Lib.hid (HR.out.go hb1)
  clear hb1 HBX HB0 HR
  generalize w0.alloc (.cells #[.int .i64 u, .int .i64 v] 31) = w1 at *
  rw [hz] at HBY
  clear hz
  generalize w.heap.size + 1 = t at *
  have a1 : ∀ m : Later w1, m.val.cell? ⟨w.heap.size, 0, none⟩ = some (.int .i64 x) := fun m => later_old m HBX1.out.cell0
  have a2 : ∀ m : Later w1, m.val.cell? ⟨w.heap.size, 1, none⟩ = some (.int .i64 y) := fun m => later_old m HBX1.out.cell1
  have a3 : ∀ m : Later w1, m.val.cell? ⟨t, 0, none⟩ = some (.int .i64 u) := fun m => later_old m HBY.out.cell0
  have a4 : ∀ m : Later w1, m.val.cell? ⟨t, 1, none⟩ = some (.int .i64 v) := fun m => later_old m HBY.out.cell1
  have H2 := Lib.hid (fun m : Later w1 => hasR_any c1 2 q _ x y U m.val (HR1.out.go m.2).mo (by omega))
  have H3 := Lib.hid (fun m : Later w1 => hasR_any c1 2 q _ u v U m.val (HR1.out.go m.2).mo (by omega))
  generalize hd : decide ((x, y) ∈ U) = d at *
  generalize he : decide ((u, v) ∈ U) = e0 at *
  have HD := Lib.hid hd
  have HE := Lib.hid he
  clear hd he
  cases d with
  | false =>
    have HC := Lib.hid (cp6 (bs := bs) (to := to) (fr := fr) (n := n) (u := u) (v := v) (fun h => of_decide_eq_false HD.out h.1))
    refine wp_region_later (by kernel_rfl) (by kernel_rfl) ?_
    repeat (go_big_quiet_step (first | (go_at_call 44; exact Calls.later (H2.out _))))
    refine wpQuiet_nil ?_
    rintro w4 ⟨⟨_, hq⟩, rfl⟩
    have HB4 := Lib.hid (Below.then HB1.out hq (Nat.le_refl _))
    have HR4 := Lib.hid (HR1.out.go hq)
    clear hq H2 H3 HB1 HBX1 HR1 a1 a2 a3 a4
    go_wp2
    go_ret
    rw [HC.out.1, HC.out.2]
    exact moE HR4.out (KS.ofBelow HB4.out) HCC.out.1
  | true =>
    have HM := Lib.hid (of_decide_eq_true HD.out)
    obtain ⟨x0, y0, xy, y1⟩ := HIN.out HM.out
    cases e0 with
    | false =>
      have HC := Lib.hid (cp6 (bs := bs) (to := to) (fr := fr) (n := n) (x := x) (y := y) (fun h => of_decide_eq_false HE.out h.2))
      refine wp_region_later (by kernel_rfl) (by kernel_rfl) ?_
      repeat (go_big_quiet_step (first | (go_at_call 44; first | (with_reducible exact Calls.later (H2.out _)) | (with_reducible exact Calls.later (H3.out _)))))
      refine wpQuiet_nil ?_
      rintro w4 ⟨⟨_, hq⟩, rfl⟩
      have HB4 := Lib.hid (Below.then HB1.out hq (Nat.le_refl _))
      have HR4 := Lib.hid (HR1.out.go hq)
      clear hq H2 H3 HB1 HBX1 HR1 a1 a2 a3 a4
      go_wp2
      go_ret
      rw [HC.out.1, HC.out.2]
      exact moE HR4.out (KS.ofBelow HB4.out) HCC.out.1
    | true =>
      have HN := Lib.hid (of_decide_eq_true HE.out)
      obtain ⟨u0, v0, uv, v1⟩ := HIN2.out HN.out
      refine wp_region_later (by kernel_rfl) (by kernel_rfl) ?_
      repeat (go_big_quiet_step (first | (go_at_call 44; first | (with_reducible exact Calls.later (H2.out _)) | (with_reducible exact Calls.later (H3.out _)))))
      refine wpQuiet_nil ?_
      rintro w4 ⟨⟨_, hq⟩, rfl⟩
      have HB4 := Lib.hid (Below.then HB1.out hq (Nat.le_refl _))
      have HR4 := Lib.hid (HR1.out.go hq)
      have HX4 := Lib.hid (HBX1.out.go hq)
      have HY4 := Lib.hid (HBY.out.go hq)
      clear hq H2 H3 HB1 HBX1 HR1 a1 a2 a3 a4 HBY
      by_cases hn0 : n < 0
      · have HC := Lib.hid (cp1 (bs := bs) (to := to) (fr := fr) ⟨HM.out, HN.out⟩ hn0)
        have dn : decide (n < 0) = true := decide_eq_true hn0
        go_wp2
        go_ret
        rw [HC.out.1, HC.out.2]
        exact moE HR4.out (KS.ofBelow HB4.out) HCC.out.1
      · have dn : decide (n < 0) = false := decide_eq_false hn0
        have HW1 := Lib.hid (fun W => withinR_any to n y W ⟨by omega, y1⟩ (by omega))
        have HW2 := Lib.hid (fun W => withinR_any fr n v W ⟨by omega, v1⟩ (by omega))
        have HC7 := Lib.hid (fun h => cp7 (bs := bs) (to := to) (fr := fr) ⟨HM.out, HN.out⟩ hn0 h)
        have HC0 := Lib.hid (fun h => cp0 (bs := bs) (to := to) (fr := fr) ⟨HM.out, HN.out⟩ hn0 h)
        have HI1 := Lib.hid (fun h : wi to n y = true => wi_is h)
        have HI2 := Lib.hid (fun h : wi fr n v = true => wi_is h)
        have HRD : Hid (wi fr n v = true → bytC U u v fr n = 0) := Lib.hid (fun h => by unfold bytC; rw [if_pos HN.out, if_neg hn0, if_pos h])
        have HWR : Hid (wi to n y = true → bytC U x y to n = 0) := Lib.hid (fun h => by unfold bytC; rw [if_pos HM.out, if_neg hn0, if_pos h])
        generalize wi to n y = b1 at *
        generalize wi fr n v = b2 at *
        have g0 := HX4.out.cell0
        have g1 := HX4.out.cell1
        cases b1 with
        | false =>
          have HC := Lib.hid (HC7.out (by simp))
          go_wp2_with fail
          refine (HW1.out _).mono ?_
          rintro e w5 ⟨rfl, hb⟩
          have HB5 := Lib.hid (Below.then HB4.out hb (Nat.le_refl _))
          have HR5 := Lib.hid (HR4.out.go hb)
          clear hb HW1 HW2
          go_wp2
          go_ret
          rw [HC.out.1, HC.out.2]
          exact moE HR5.out (KS.ofBelow HB5.out) HCC.out.1
        | true =>
          obtain ⟨t0, t1⟩ := HI1.out rfl
          go_wp2_with fail
          refine (HW1.out _).mono ?_
          rintro e w5 ⟨rfl, hb⟩
          have HB5 := Lib.hid (Below.then HB4.out hb (Nat.le_refl _))
          have HR5 := Lib.hid (HR4.out.go hb)
          have HX5 := Lib.hid (HX4.out.go hb)
          have HY5 := Lib.hid (HY4.out.go hb)
          clear hb HW1 HB4 HR4 HX4 HY4 g0 g1
          have g2 := HY5.out.cell0
          have g3 := HY5.out.cell1
          cases b2 with
          | false =>
            have HC := Lib.hid (HC7.out (by simp))
            go_wp2_with fail
            refine (HW2.out _).mono ?_
            rintro e w6 ⟨rfl, hb⟩
            have HB6 := Lib.hid (Below.then HB5.out hb (Nat.le_refl _))
            have HR6 := Lib.hid (HR5.out.go hb)
            clear hb HW2
            go_wp2
            go_ret
            rw [HC.out.1, HC.out.2]
            exact moE HR6.out (KS.ofBelow HB6.out) HCC.out.1
          | true =>
            obtain ⟨f0, f1⟩ := HI2.out rfl
            have HC := Lib.hid (HC0.out (by simp))
            have HRD0 := Lib.hid (HRD.out (by simp))
            have HWR0 := Lib.hid (HWR.out (by simp))
            go_wp2_with fail
            refine (HW2.out _).mono ?_
            rintro e w6 ⟨rfl, hb⟩
            have HB6 := Lib.hid (Below.then HB5.out hb (Nat.le_refl _))
            have HR6 := Lib.hid (HR5.out.go hb)
            have HX6 := Lib.hid (HX5.out.go hb)
            have HY6 := Lib.hid (HY5.out.go hb)
            clear hb HW2 HB5 HR5 HX5 HY5 g2 g3
            have k2 := HY6.out.cell0
            have k3 := HY6.out.cell1
            have hw6 : w.heap.size ≤ w6.heap.size := HB6.out.size
            go_wp2_with fail
            refine (readR_any c1 q g U bs u v fr n w6 HR6.out HIS.out hU hn).mono ?_
            rintro e w7 ⟨vb, rfl, ho, hb⟩
            rw [HRD0.out]
            have hrd : rdL U bs u v fr n = (bs.drop (u + fr).toNat).take n.toNat := by unfold rdL; rw [HRD0.out, if_pos rfl]
            rw [hrd] at ho
            obtain ⟨Ab, nb, cb, rfl, hrow⟩ := ho.shape
            have hnb : nb = n.toNat := by
              have := hrow.len
              rw [iv_len, List.length_take, List.length_drop] at this
              omega
            subst hnb
            have HROW := Lib.hid hrow
            have HGE : Hid (∀ b o, Ab = some ⟨b, o, none⟩ → b < w7.heap.size → c1 b ≠ 5) := Lib.hid (fun b o e _ => by
              have := ho.ge b o e
              rw [HCC.out.2 b (by omega)]; omega)
            have HB7 := Lib.hid (Below.then HB6.out hb (Nat.le_refl _))
            have HR7 := Lib.hid (HR6.out.go hb)
            have HX7 := Lib.hid (HX6.out.go hb)
            have k0 := HX7.out.cell0
            have k1 := HX7.out.cell1
            have HL7 : Hid (((bs.drop (u + fr).toNat).take n.toNat).length = n.toNat) := Lib.hid (by rw [List.length_take, List.length_drop]; omega)
            have HFT7 : Hid (Fit .u8 ((bs.drop (u + fr).toNat).take n.toNat)) := Lib.hid (fit_sub HR6.out.fit _ _)
            have hnn : (n.toNat : Int) = n := by omega
            have HNN := Lib.hid hnn
            clear ho hb HR6 HX6 HY6 HB6 k2 k3 hrow hrd hnn
            go_wp2_with fail
            refine (writeR_any c1 q g U bs x y to Ab n.toNat cb _ w7 HR7.out HIS.out hU HROW.out HFT7.out HGE.out).mono ?_
            rintro e w8 ⟨rfl, c', hm', hk', hc', hc9⟩
            have hwb : wrB U bs x y to ((bs.drop (u + fr).toNat).take n.toNat) = pt bs (x + to).toNat ((bs.drop (u + fr).toNat).take n.toNat) := by
              unfold wrB
              rw [HL7.out, HNN.out, HWR0.out, if_pos rfl]
            rw [hwb] at hm'
            rw [HNN.out, HWR0.out]
            have HM8 := Lib.hid hm'
            have HK8 : Hid (KS Sm c w w8) := Lib.hid ((KS.ofBelow HB7.out).trans hk' HCC.out.1)
            have HC8 : Hid (∀ z, z < w.heap.size → c' z = c z) := Lib.hid (fun z hz => by
              have := HB7.out.size
              rw [hc' z (by omega), HCC.out.1 z hz])
            clear hm' hk' hc' hc9 hwb
            go_wp2
            go_ret
            rw [HC.out.1, HC.out.2]
            exact moE HM8.out HK8.out HC8.out
end Go.Proofs.Ytfchccgajcjbbaa
