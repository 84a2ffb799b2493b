/-
  The law ExtentsBits as a walk: it returns true and changes nothing that was there. No conditions.
-/
import Derived.Test.YtolfcoaipcaoaaaAwake
import Derived.Test.YtolfcoaipcaoaaaSetLaw
namespace Go.Proofs.Ytolfcoaipcaoaaa
open Go.ChangeShapes Go.WideShapes Go.ChangeAt Go.RowKit
set_option maxHeartbeats 3200000
set_option maxRecDepth 100000

theorem extentsBits_walk (a0 : Option Addr) (n0 c0 : Nat) (z0 : List Int) (a b t : Int) (w : World)
    (h0 : IsRow .u16 w a0 n0 c0 z0) (h1 : (Lit.int .u8 a).wf = true) (h2 : (Lit.int .u8 b).wf = true) (h3 : (Lit.int .u8 t).wf = true) :
    Calls Try.prog 11 #[.slice a0 n0 c0, .int .u8 a, .int .u8 b, .int .u8 t] w fun e w' => e = .returned (.bool true) ∧ Below w.heap.size w w' := by
  obtain ⟨hr, hf⟩ := h0.row
  obtain ⟨a1, a2⟩ := byte_bd h1
  obtain ⟨b1, b2⟩ := byte_bd h2
  obtain ⟨t1, t2⟩ := byte_bd h3
  have HS := Lib.hid (set_any a0 n0 c0 _ w hr hf)
  have HV := Lib.hid (set_va (z0.take n0))
  have HLN := Lib.hid (set_len (z0.take n0))
  generalize mkSet (z0.take n0) = s at *
  clear h0 h1 h2 h3 hr hf
  have x1 : 0 < 1 + b % 9 := by omega
  have x2 : 1 + b % 9 ≤ 9 := by omega
  obtain ⟨wb, hwb⟩ : ∃ wb, wb = cnt s t := ⟨_, rfl⟩
  obtain ⟨ib, hib⟩ : ∃ ib, ib = (decide (a ≤ t) && decide (t < a + (1 + b % 9))) := ⟨_, rfl⟩
  have PX : Hid (Pr a (1 + b % 9)) := Lib.hid ⟨by omega, by omega, by omega⟩
  have HI : Hid (Free s (a, 1 + b % 9) → cnt (ins s (a, 1 + b % 9)) t = (wb || ib)) := Lib.hid fun hf => by rw [bit_ins HV.out PX.out hf (by omega) (by omega), hwb, hib]
  have HR : Hid (Has s (a, 1 + b % 9) → cnt (rem s (a, 1 + b % 9)) t = (wb && !ib)) := Lib.hid fun hf => by rw [bit_rem HV.out PX.out hf (by omega) (by omega), hwb, hib]
  have HW := Lib.hid hwb
  clear hwb
  have tri : (t < a ∧ ib = false) ∨ (a ≤ t ∧ t < a + (1 + b % 9) ∧ ib = true) ∨ (a ≤ t ∧ ¬ t < a + (1 + b % 9) ∧ ib = false) := by
    rw [hib]
    by_cases k1 : a ≤ t
    · by_cases k2 : t < a + (1 + b % 9)
      · exact .inr (.inl ⟨k1, k2, by rw [decide_eq_true k1, decide_eq_true k2]; rfl⟩)
      · exact .inr (.inr ⟨k1, k2, by rw [decide_eq_false k2]; simp⟩)
    · exact .inl ⟨by omega, by rw [decide_eq_false k1]; rfl⟩
  clear hib
  rcases tri with ⟨q, rfl⟩ | ⟨q, q', rfl⟩ | ⟨q, q', rfl⟩
  all_goals
    try have qd := decide_eq_false q'
    cases wb
  all_goals
    go_enter Try.func11, Try.ntmps11
    go_wp2_with fail
    refine HS.out.mono ?_
    rintro e w1 ⟨v, rfl, ho, hb⟩
    obtain ⟨A1, n1, cc1, rfl, hx⟩ := ho.shape
    have hn1 : n1 ≤ 12 := by have := hx.len; have := HLN.out; omega
    have HB1 := Lib.hid hb
    have HX1 := Lib.hid hx
    clear HS ho hb hx
    go_wp2_with fail
    generalize 1 + b % 9 = lb at *
    have hb2 : Below w1.heap.size w1 (w1.alloc (.cells #[.int .i64 a, .int .i64 lb] 31)) := (Below.refl _ _).alloc (Nat.le_refl _) _
    have HE1 := Lib.hid (Box.new (w := w1) (x := a) (y := lb))
    have HX1 := Lib.hid (HX1.out.go hb2)
    have HB2 := Lib.hid (Below.then HB1.out hb2 (Nat.le_refl _))
    generalize w1.alloc (.cells #[.int .i64 a, .int .i64 lb] 31) = w2 at *
    clear hb2 HB1
    refine (contains_any A1 n1 cc1 s t w2 HX1.out (by omega)).mono ?_
    rintro e wk1 ⟨rfl, hb⟩
    have HX1 := Lib.hid (HX1.out.go hb); have HE1 := Lib.hid (HE1.out.go hb); have HBk1 := Lib.hid (Below.then HB2.out hb (Nat.le_refl _))
    clear hb
    rw [← HW.out]
    have f0 := HE1.out.cell0
    have f1 := HE1.out.cell1
    go_wp2_with fail
    refine (insert_any A1 n1 cc1 s a lb wk1 HX1.out (by omega) (by omega) (by omega) (by omega) (by omega)).mono ?_
    rintro e wk2 ⟨v, rfl, ho, hb⟩
    obtain ⟨AP, nP, cP, rfl, hx⟩ := ho.shape
    have HP := Lib.hid hx
    have HX1 := Lib.hid (HX1.out.go hb); have HE1 := Lib.hid (HE1.out.go hb); have HBk2 := Lib.hid (Below.then HBk1.out hb (Nat.le_refl _))
    clear ho hb hx
    clear f0 f1
    have f0 := HE1.out.cell0
    have f1 := HE1.out.cell1
    go_wp2_with fail
    refine (remove_any A1 n1 cc1 s a lb wk2 HX1.out (by omega) (by omega) (by omega) (by omega) (by omega)).mono ?_
    rintro e wk3 ⟨v, rfl, ho, hb⟩
    obtain ⟨AQ, nQ, cQ, rfl, hx⟩ := ho.shape
    have HQ := Lib.hid hx
    have HX1 := Lib.hid (HX1.out.go hb); have HE1 := Lib.hid (HE1.out.go hb); have HP := Lib.hid (HP.out.go hb); have HBk3 := Lib.hid (Below.then HBk2.out hb (Nat.le_refl _))
    clear ho hb hx
    clear f0 f1
    have hnP : nP ≤ 13 := by have := HP.out.len; have := insR_len' (l := s) (e := (a, lb)); have := HLN.out; omega
    by_cases fx : Free s (a, lb)
    · have hx : ¬ Has s (a, lb) := fun h => has_not_free (by simp only; omega) h fx
      have HPX := Lib.hid (insR_free HV.out PX.out fx)
      have HCI := Lib.hid (HI.out fx)
      simp only [Bool.or_self, Bool.or_true, Bool.or_false] at HCI
      rw [HPX.out] at HP
      rw [HPX.out]
      simp only at HP
      have HQX := Lib.hid (remR_not HV.out PX.out hx)
      rw [HQX.out]
      go_wp2_with fail
      refine (contains_any AP nP cP _ t wk3 HP.out (by omega)).mono ?_
      rintro e wk4 ⟨rfl, hb⟩
      have HQ := Lib.hid (HQ.out.go hb); have HBk4 := Lib.hid (Below.then HBk3.out hb (Nat.le_refl _))
      clear hb
      rw [HCI.out]
      go_wp2_with fail
      refine (awake_any wk4).mono ?_
      rintro e wk5 ⟨rfl, hb⟩
      have HQ := Lib.hid (HQ.out.go hb); have HBk5 := Lib.hid (Below.then HBk4.out hb (Nat.le_refl _))
      clear hb
      go_wp2
      go_ret
      exact ⟨rfl, HBk5.out⟩
    · by_cases hx : Has s (a, lb)
      · have HPX := Lib.hid (insR_not HV.out PX.out fx)
        rw [HPX.out]
        have HQX := Lib.hid (remR_has HV.out PX.out hx)
        have HCR := Lib.hid (HR.out hx)
        simp only [Bool.not_true, Bool.not_false, Bool.and_true, Bool.and_false, Bool.and_self] at HCR
        rw [HQX.out] at HQ
        rw [HQX.out]
        simp only at HQ
        have hnQ : nQ ≤ 24 := by have := HQ.out.len; have := rem_len (l := s) (e := (a, lb)); have := HLN.out; omega
        go_wp2_with fail
        refine (awake_any wk3).mono ?_
        rintro e wk4 ⟨rfl, hb⟩
        have HQ := Lib.hid (HQ.out.go hb); have HBk4 := Lib.hid (Below.then HBk3.out hb (Nat.le_refl _))
        clear hb
        go_wp2_with fail
        refine (contains_any AQ nQ cQ _ t wk4 HQ.out (by omega)).mono ?_
        rintro e wk5 ⟨rfl, hb⟩
        have HQ := Lib.hid (HQ.out.go hb); have HBk5 := Lib.hid (Below.then HBk4.out hb (Nat.le_refl _))
        clear hb
        rw [HCR.out]
        go_wp2
        go_ret
        exact ⟨rfl, HBk5.out⟩
      · have HPX := Lib.hid (insR_not HV.out PX.out fx)
        rw [HPX.out]
        have HQX := Lib.hid (remR_not HV.out PX.out hx)
        rw [HQX.out]
        go_wp2_with fail
        refine (awake_any wk3).mono ?_
        rintro e wk4 ⟨rfl, hb⟩
        have HQ := Lib.hid (HQ.out.go hb); have HBk4 := Lib.hid (Below.then HBk3.out hb (Nat.le_refl _))
        clear hb
        go_wp2
        go_ret
        exact ⟨rfl, HBk4.out⟩
end Go.Proofs.Ytolfcoaipcaoaaa
