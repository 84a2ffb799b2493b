/-
  The law ExtentsCommute as a walk: it returns true and changes nothing that was there. No conditions.
-/
import Derived.Test.YtolfcoaipcaoaaaAwake
import Derived.Test.YtolfcoaipcaoaaaSetLaw
namespace Go.Proofs.Ytolfcoaipcaoaaa
open Go.ChangeShapes Go.WideShapes Go.ChangeAt Go.RowKit
set_option maxHeartbeats 1600000
set_option maxRecDepth 100000

theorem extentsCommute_walk (a0 : Option Addr) (n0 c0 : Nat) (z0 : List Int) (a b c d : Int) (w : World)
    (h0 : IsRow .u16 w a0 n0 c0 z0) (h1 : (Lit.int .u8 a).wf = true) (h2 : (Lit.int .u8 b).wf = true) (h3 : (Lit.int .u8 c).wf = true) (h4 : (Lit.int .u8 d).wf = true) :
    Calls Try.prog 9 #[.slice a0 n0 c0, .int .u8 a, .int .u8 b, .int .u8 c, .int .u8 d] w fun e w' => e = .returned (.bool true) ∧ Below w.heap.size w w' := by
  obtain ⟨hr, hf⟩ := h0.row
  obtain ⟨a1, a2⟩ := byte_bd h1
  obtain ⟨b1, b2⟩ := byte_bd h2
  obtain ⟨c1, c2⟩ := byte_bd h3
  obtain ⟨d1, d2⟩ := byte_bd h4
  have HS := Lib.hid (set_any a0 n0 c0 _ w hr hf)
  have HV := Lib.hid (set_va (z0.take n0))
  have HLN := Lib.hid (set_len (z0.take n0))
  generalize mkSet (z0.take n0) = s at *
  clear h0 h1 h2 h3 h4 hr hf
  have x1 : 0 < 1 + b % 9 := by omega
  have x2 : 1 + b % 9 ≤ 9 := by omega
  have y1 : 0 < 1 + d % 9 := by omega
  have y2 : 1 + d % 9 ≤ 9 := by omega
  go_enter Try.func9, Try.ntmps9
  go_wp2_with fail
  refine HS.out.mono ?_
  rintro e w1 ⟨v, rfl, ho, hb⟩
  obtain ⟨A1, n1, cc1, rfl, hx⟩ := ho.shape
  have hn1 : n1 ≤ 12 := by have := hx.len; have := HLN.out; omega
  have HB1 := Lib.hid hb
  have HX1 := Lib.hid hx
  clear HS ho hb hx
  go_wp2_with fail
  generalize 1 + b % 9 = lb at *
  generalize 1 + d % 9 = ld at *
  have hb2 : Below w1.heap.size w1 ((w1.alloc (.cells #[.int .i64 a, .int .i64 lb] 31)).alloc (.cells #[.int .i64 c, .int .i64 ld] 31)) := ((Below.refl _ _).alloc (Nat.le_refl _) _).alloc (by simp) _
  have HE1 := Lib.hid ((Box.new (w := w1) (x := a) (y := lb)).go ((Below.refl _ _).alloc (Nat.le_refl _) (.cells #[.int .i64 c, .int .i64 ld] 31)))
  have HE2 := Lib.hid (Box.new (w := w1.alloc (.cells #[.int .i64 a, .int .i64 lb] 31)) (x := c) (y := ld))
  rw [show (w1.alloc (.cells #[.int .i64 a, .int .i64 lb] 31)).heap.size = w1.heap.size + 1 by simp] at HE2
  have HX1 := Lib.hid (HX1.out.go hb2)
  have HB2 := Lib.hid (Below.then HB1.out hb2 (Nat.le_refl _))
  generalize (w1.alloc (.cells #[.int .i64 a, .int .i64 lb] 31)).alloc (.cells #[.int .i64 c, .int .i64 ld] 31) = w2 at *
  clear hb2 HB1
  have PX : Hid (Pr a lb) := Lib.hid ⟨by omega, by omega, by omega⟩
  have PY : Hid (Pr c ld) := Lib.hid ⟨by omega, by omega, by omega⟩
  refine (insert_any A1 n1 cc1 s a lb w2 HX1.out (by omega) (by omega) (by omega) (by omega) (by omega)).mono ?_
  rintro e wk1 ⟨v, rfl, ho, hb⟩
  obtain ⟨AP, nP, cP, rfl, hx⟩ := ho.shape
  have HP := Lib.hid hx
  have HX1 := Lib.hid (HX1.out.go hb); have HE1 := Lib.hid (HE1.out.go hb); have HE2 := Lib.hid (HE2.out.go hb); have HBk1 := Lib.hid (Below.then HB2.out hb (Nat.le_refl _))
  clear ho hb hx
  have f0 := HE1.out.cell0
  have f1 := HE1.out.cell1
  have f2 := HE2.out.cell0
  have f3 := HE2.out.cell1
  go_wp2_with fail
  refine (insert_any A1 n1 cc1 s c ld wk1 HX1.out (by omega) (by omega) (by omega) (by omega) (by omega)).mono ?_
  rintro e wk2 ⟨v, rfl, ho, hb⟩
  obtain ⟨AQ, nQ, cQ, rfl, hx⟩ := ho.shape
  have HQ := Lib.hid hx
  have HX1 := Lib.hid (HX1.out.go hb); have HE1 := Lib.hid (HE1.out.go hb); have HE2 := Lib.hid (HE2.out.go hb); have HP := Lib.hid (HP.out.go hb); have HBk2 := Lib.hid (Below.then HBk1.out hb (Nat.le_refl _))
  clear ho hb hx
  clear f0 f1 f2 f3
  have f0 := HE1.out.cell0
  have f1 := HE1.out.cell1
  have f2 := HE2.out.cell0
  have f3 := HE2.out.cell1
  have HLP : Hid ((insR s (a, lb)).1.length ≤ 13) := Lib.hid (by have := insR_len' (l := s) (e := (a, lb)); have := HLN.out; omega)
  have HLQ : Hid ((insR s (c, ld)).1.length ≤ 13) := Lib.hid (by have := insR_len' (l := s) (e := (c, ld)); have := HLN.out; omega)
  by_cases fx : Free s (a, lb)
  · by_cases fy : Free s (c, ld)
    · have HC := Lib.hid (comm_ins HV.out PX.out PY.out fx fy)
      have HPX := Lib.hid (insR_free HV.out PX.out fx)
      have HPY := Lib.hid (insR_free HV.out PY.out fy)
      rw [HPX.out] at HP HLP
      rw [HPY.out] at HQ HLQ
      rw [HPX.out, HPY.out]
      simp only at HP HQ HLP HLQ
      have hnP : nP ≤ 13 := by have := HP.out.len; have := HLP.out; omega
      have hnQ : nQ ≤ 13 := by have := HQ.out.len; have := HLQ.out; omega
      generalize ins s (a, lb) = sp at *
      generalize ins s (c, ld) = sq at *
      clear fx fy HPX HPY HLP HLQ
      go_wp2_with fail
      refine (insert_any AP nP cP sp c ld wk2 HP.out (by omega) (by omega) (by omega) (by omega) (by omega)).mono ?_
      rintro e wk3 ⟨v, rfl, ho, hb⟩
      obtain ⟨AU, nU, cU, rfl, hx⟩ := ho.shape
      have HU := Lib.hid hx
      have HX1 := Lib.hid (HX1.out.go hb); have HE1 := Lib.hid (HE1.out.go hb); have HE2 := Lib.hid (HE2.out.go hb); have HP := Lib.hid (HP.out.go hb); have HQ := Lib.hid (HQ.out.go hb); have HBk3 := Lib.hid (Below.then HBk2.out hb (Nat.le_refl _))
      clear ho hb hx
      clear f0 f1 f2 f3
      have f0 := HE1.out.cell0
      have f1 := HE1.out.cell1
      have f2 := HE2.out.cell0
      have f3 := HE2.out.cell1
      go_wp2_with fail
      refine (insert_any AQ nQ cQ sq a lb wk3 HQ.out (by omega) (by omega) (by omega) (by omega) (by omega)).mono ?_
      rintro e wk4 ⟨v, rfl, ho, hb⟩
      obtain ⟨AW, nW, cW, rfl, hx⟩ := ho.shape
      have HW := Lib.hid hx
      have HX1 := Lib.hid (HX1.out.go hb); have HE1 := Lib.hid (HE1.out.go hb); have HE2 := Lib.hid (HE2.out.go hb); have HP := Lib.hid (HP.out.go hb); have HQ := Lib.hid (HQ.out.go hb); have HU := Lib.hid (HU.out.go hb); have HBk4 := Lib.hid (Below.then HBk3.out hb (Nat.le_refl _))
      clear ho hb hx
      clear f0 f1 f2 f3
      rw [HC.out] at HU ⊢
      generalize (insR sq (a, lb)).1 = l2 at *
      generalize (insR sq (a, lb)).2 = r2 at *
      go_wp2_with fail
      refine (awake_any wk4).mono ?_
      rintro e wk5 ⟨rfl, hb⟩
      have HU := Lib.hid (HU.out.go hb); have HW := Lib.hid (HW.out.go hb); have HBk5 := Lib.hid (Below.then HBk4.out hb (Nat.le_refl _))
      clear hb
      go_wp2_with fail
      refine (same_yes _ _ _ _ _ _ _ wk5 HU.out HW.out).mono ?_
      rintro e wk6 ⟨rfl, hb⟩
      have HU := Lib.hid (HU.out.go hb); have HW := Lib.hid (HW.out.go hb); have HBk6 := Lib.hid (Below.then HBk5.out hb (Nat.le_refl _))
      clear hb
      go_wp2
      go_ret
      exact ⟨rfl, HBk6.out⟩
    · have HPX := Lib.hid (insR_free HV.out PX.out fx)
      have HPY := Lib.hid (insR_not HV.out PY.out fy)
      rw [HPX.out, HPY.out]
      go_wp2_with fail
      refine (awake_any wk2).mono ?_
      rintro e wk3 ⟨rfl, hb⟩
      have HBk3 := Lib.hid (Below.then HBk2.out hb (Nat.le_refl _))
      clear hb
      go_wp2
      go_ret
      exact ⟨rfl, HBk3.out⟩
  · have HPX := Lib.hid (insR_not HV.out PX.out fx)
    rw [HPX.out]
    generalize (insR s (c, ld)).2 = r2 at *
    go_wp2_with fail
    refine (awake_any wk2).mono ?_
    rintro e wk3 ⟨rfl, hb⟩
    have HBk3 := Lib.hid (Below.then HBk2.out hb (Nat.le_refl _))
    clear hb
    go_wp2
    go_ret
    exact ⟨rfl, HBk3.out⟩
end Go.Proofs.Ytolfcoaipcaoaaa
