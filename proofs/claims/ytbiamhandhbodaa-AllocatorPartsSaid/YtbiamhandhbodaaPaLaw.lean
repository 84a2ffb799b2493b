/-
  The law AllocatorParts as a walk: it returns true and changes nothing that was there. No conditions.
-/
import Derived.Test.YtbiamhandhbodaaRun
namespace Go.Proofs.Ytbiamhandhbodaa
open Go.ChangeShapes Go.WideShapes Go.ChangeAt Go.RowKit
set_option maxHeartbeats 8000000
set_option maxRecDepth 100000

theorem allocatorParts_walk (r : Int) (At : Option Addr) (m ct : Nat) (w : World) (hr : (Lit.int .u16 r).wf = true) (ht : Tri w w.heap.size At m ct) :
    Calls Try.prog 5 #[.int .u16 r, .slice At m ct] w fun e w' => e = .returned (.bool true) ∧ Below w.heap.size w w' := by
  have hr1 := Go.bounds_u16 hr
  have hn0 : 0 ≤ r % 2000 := by omega
  have hn1 : r % 2000 ≤ 1048576 := by omega
  have H := Lib.hid (runs_any At m ct (r % 2000) w ht hn0 hn1)
  clear ht hr
  go_enter Try.func5, Try.ntmps5
  go_wp2_with fail
  generalize r % 2000 = n at *
  refine H.out.mono ?_
  rintro e w1 ⟨c, p, F, A, rfl, ha, hg, hl, hb, hc⟩
  have HA := Lib.hid ha
  have HG := Lib.hid hg
  have HB := Lib.hid hb
  have hw1 := hb.size
  have hF : F.length ≤ 1000000 := by have := gd_flen hg; omega
  clear H ha hg hb hc
  go_wp2_with fail
  refine (listed_any c 1 p F A w1 HA.out (by omega)).mono ?_
  rintro e w2 ⟨v, rfl, ho, hb⟩
  obtain ⟨Al, nl, cl, rfl, hx⟩ := ho.shape
  have HX := Lib.hid hx
  have hlen := hx.len
  have hcap := hx.cap
  have hsm := hx.small
  unfold maxLen at hsm
  have HA2 := Lib.hid (HA.out.go hb)
  have HB2 := Lib.hid (Below.then HB.out hb (by omega))
  obtain ⟨q1, q2⟩ := gd_pair HG.out (List.Perm.refl A)
  have HIA := Lib.hid (fun j (hj : j ≤ A.length) => insAll_ok q1 q2 HG.out.n1 (k := j) hj)
  have HFE := Lib.hid (free_eq HG.out (List.Perm.refl A))
  clear ho hb hx HA HB q1 q2
  go_wp2
  go_loopw [8, 9, 30] (fun av sv iv wr => ∃ (i : Nat) (z : Int) (A' : Option Addr) (n' c' : Nat), i ≤ nl ∧ iv = .int .i64 i ∧ av = .int .i64 z ∧ sv = .slice A' n' c' ∧ Hid (OwnE 39 wr w2.heap.size (.slice A' n' c') (insAll (A.take i)) ∧ (∀ x, A[i]? = some x → z ≤ x.1) ∧ Below w2.heap.size w2 wr)) (fun _ _ iv _ => nl - (intOf iv).toNat)
  case atStart => exact ⟨0, 0, none, 0, 0, by omega, rfl, rfl, rfl, Lib.hid ⟨by simpa [insAll] using OwnE.nil _ _ _, fun x hx => (gd_in HG.out hx).1, Below.refl _ _⟩⟩
  case round =>
    obtain ⟨i, z, A', n', c', hi, rfl, rfl, rfl, hh⟩ := hrel
    by_cases hlt : i < nl
    · obtain ⟨b, o, u, v, hu, rfl, hb, hc1, hc2, x0, x1, y0, y1⟩ := (HX.out.below hh.out.2.2).at_ hlt
      have hlt' : (i : Int) < (nl : Int) := by omega
      have hin := gd_in HG.out hu
      have i1 := hin.1
      have i2 := hin.2.1
      have i3 := hin.2.2
      simp only at i1 i2 i3
      have hzu : z ≤ u := hh.out.2.1 _ hu
      have hzu' : ¬ u < z := by omega
      have dzu : decide (u < z) = false := decide_eq_false hzu'
      obtain ⟨v1, v2, v3⟩ := HIA.out i (by omega)
      obtain ⟨v4, v5⟩ := v3 _ hu
      have p3 := v5.2.2
      simp only at p3
      have hn' : n' ≤ 1000 := by
        have h1 := hh.out.1.exs.len
        have h2 := insAll_le (l := A.take i)
        rw [List.length_take] at h2
        omega
      have hba : Below wr.heap.size wr (wr.alloc (.cells #[.int .i64 u, .int .i64 v] 39)) := (Below.refl _ _).alloc (Nat.le_refl _) _
      have HE := Lib.hid (Box.new (w := wr) (x := u) (y := v))
      have HB3 := Lib.hid (Below.then hh.out.2.2 hba (Nat.le_refl _))
      have H := Lib.hid (insertR_in A' n' c' (insAll (A.take i)) u v (wr.alloc (.cells #[.int .i64 u, .int .i64 v] 39)) (hh.out.1.below hba).exs hn' v1 v5)
      rw [show insR (insAll (A.take i)) (u, v) = (ins (insAll (A.take i)) (u, v), 0) by unfold insR; rw [if_pos ⟨v1, v5⟩, if_pos v4], ← insAll_step hu] at H
      have HNX : Hid (∀ x, A[i + 1]? = some x → u + v ≤ x.1) := Lib.hid (fun x hx => gd_lt HG.out hu hx (by omega))
      clear v1 v2 v3 v4 v5 hu hba hin
      go_wp2_with fail
      generalize wr.alloc (.cells #[.int .i64 u, .int .i64 v] 39) = w3 at *
      refine H.out.mono ?_
      rintro e w4 ⟨v2, rfl, ho2, hb2⟩
      obtain ⟨A2, n2, c2, rfl, hx2⟩ := ho2.shape
      have HO2 := Lib.hid (ho2.down (B := w2.heap.size) HB3.out.size)
      have HB4 := Lib.hid (Below.then HB3.out hb2 (Nat.le_refl _))
      have HE4 := Lib.hid (HE.out.go hb2)
      have e0 := HE4.out.cell0
      have e1 := HE4.out.cell1
      clear H ho2 hb2 hx2 hh hc1 hc2 HE HB3
      go_wp2
      go_roundw
      case rel => exact ⟨i + 1, u + v, A2, n2, c2, by omega, by go_num, rfl, rfl, Lib.hid ⟨HO2.out, HNX.out, HB4.out⟩⟩
      case measure => simp [intOf]; omega
    · obtain rfl : i = nl := by omega
      have hlt' : ¬ (i : Int) < (i : Int) := by omega
      have HT : Hid (A.take i = A) := Lib.hid (List.take_of_length_le (by omega))
      rw [HT.out] at hh
      have hn' : n' ≤ 1000 := by
        have h1 := hh.out.1.exs.len
        have h2 := insAll_le (l := A)
        omega
      have H := Lib.hid (cmpR_any A' n' c' (insAll A) n wr hh.out.1.exs hn')
      rw [show cmpR (insAll A) n = (F, 0) by unfold cmpR; rw [if_pos ⟨HFE.out.1, HG.out.n0, HG.out.n1, HFE.out.2.1⟩, HFE.out.2.2]] at H
      have HB3 := Lib.hid (Below.then HB2.out hh.out.2.2 (by have := HB2.out.size; omega))
      have HA3 := Lib.hid (HA2.out.go hh.out.2.2)
      clear hh
      go_wp2_with fail
      refine H.out.mono ?_
      rintro e w4 ⟨v2, rfl, ho2, hb2⟩
      obtain ⟨A2, n2, c2, rfl, hx2⟩ := ho2.shape
      have HX4 := Lib.hid hx2
      have HA4 := Lib.hid (HA3.out.go hb2)
      have HB4 := Lib.hid (Below.then HB3.out hb2 (by have := HB3.out.size; omega))
      clear H ho2 hb2 hx2 HA3 HB3
      go_wp2_with fail
      refine (awake6_any w4).mono ?_
      rintro e w5 ⟨rfl, hb⟩
      have HX5 := Lib.hid (HX4.out.go hb)
      have HA5 := Lib.hid (HA4.out.go hb)
      have HB5 := Lib.hid (Below.then HB4.out hb (by have := HB4.out.size; omega))
      clear hb HX4 HA4 HB4
      go_wp2_with fail
      refine (freeList_any c 1 p F A w5 HA5.out hF).mono ?_
      rintro e w6 ⟨v, rfl, ho, hb⟩
      obtain ⟨Av, nv, cv, rfl, hxv⟩ := ho.shape
      have HX6 := Lib.hid (HX5.out.go hb)
      have HV6 := Lib.hid hxv
      have HB6 := Lib.hid (Below.then HB5.out hb (by have := HB5.out.size; omega))
      clear ho hb hxv HX5 HA5 HB5
      go_wp2_with fail
      refine (same_yes A2 Av n2 nv c2 cv F w6 HX6.out HV6.out).mono ?_
      rintro e w7 ⟨rfl, hb⟩
      have HB7 := Lib.hid (Below.then HB6.out hb (by have := HB6.out.size; omega))
      clear hb HB6
      go_wp2
      go_ret
      exact ⟨rfl, HB7.out⟩
end Go.Proofs.Ytbiamhandhbodaa
