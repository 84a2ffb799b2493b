/-
  The law ExtentsTwice as a walk: it returns true and changes nothing that was there. No conditions.
-/
import Derived.Test.YtolfcoaipcaoaaaAwake
import Derived.Test.YtolfcoaipcaoaaaCmp
import Derived.Test.YtolfcoaipcaoaaaSetLaw
namespace Go.Proofs.Ytolfcoaipcaoaaa
open Go.ChangeShapes Go.WideShapes Go.ChangeAt Go.RowKit
set_option maxHeartbeats 1600000
set_option maxRecDepth 100000

theorem cmpR_ok {l : List (Int × Int)} {size : Int} (hv : Va (-1) l) (h0 : 0 ≤ size) (h1 : size ≤ 1048576) (hl : lst 0 l ≤ size) : cmpR l size = (cmp 0 l size, 0) := by
  unfold cmpR
  rw [if_pos ⟨hv, h0, h1, hl⟩]
/-- The complement of the complement is the set, and both together have all bytes. -/
theorem twice {l : List (Int × Int)} {size : Int} (hv : Va (-1) l) (h0 : 0 ≤ size) (h1 : size ≤ 1048576) (hl : lst 0 l ≤ size) :
    cmpR (cmp 0 l size) size = (l, 0) ∧ tot 0 (cmp 0 l size) + tot 0 l = size ∧ 0 ≤ tot 0 (cmp 0 l size) ∧ tot 0 (cmp 0 l size) ≤ 1048577 ∧ 0 ≤ tot 0 l ∧ tot 0 l ≤ 1048577 := by
  have va := cmp_va (q := -1) hv (show (0 : Int) ≤ -1 + 1 by omega) hl h1 (by omega) (by omega)
  have hm := cmp_mem hv (show (0 : Int) ≤ -1 + 1 by omega) hl
  have hl2 : lst 0 (cmp 0 l size) ≤ size := lst_le va h0 fun t ht => ((hm t).1 ht).2.1
  have t1 := tot_valid va
  have t2 := tot_valid hv
  refine ⟨?_, ?_, by rw [t1.1]; exact t1.2.1, by rw [t1.1]; exact t1.2.2, by rw [t2.1]; exact t2.2.1, by rw [t2.1]; exact t2.2.2⟩
  · rw [cmpR_ok va h0 h1 hl2]
    refine Prod.ext ?_ rfl
    have va2 := cmp_va (q := -1) va (show (0 : Int) ≤ -1 + 1 by omega) hl2 h1 (by omega) (by omega)
    refine ext_va va2 hv fun t => ?_
    rw [cmp_mem va (show (0 : Int) ≤ -1 + 1 by omega) hl2 t, hm t]
    constructor
    · rintro ⟨a, b, c⟩
      exact Classical.byContradiction fun hn => c ⟨a, b, hn⟩
    · intro ht
      have k := mem_lo hv ht
      refine ⟨k.2.1, ?_, fun c => c.2.2 ht⟩
      obtain ⟨x, hx, k1, k2⟩ := ht
      have k3 := va_lst_le hv x hx
      have h2 : l ≠ [] := fun e => by rw [e] at hx; cases hx
      rw [lst_any (p := 0) (q := -1) h2] at hl
      omega
  · rw [t1.1, t2.1]
    have := cmp_sm (l := l) (a := 0) (size := size)
    omega

theorem extentsTwice_walk (a0 : Option Addr) (n0 c0 : Nat) (z0 : List Int) (more : Int) (w : World)
    (h0 : IsRow .u16 w a0 n0 c0 z0) (h1 : (Lit.int .u8 more).wf = true) :
    Calls Try.prog 7 #[.slice a0 n0 c0, .int .u8 more] w fun e w' => e = .returned (.bool true) ∧ Below w.heap.size w w' := by
  obtain ⟨hr, hf⟩ := h0.row
  obtain ⟨m0, m1⟩ := byte_bd h1
  have HS := Lib.hid (set_any a0 n0 c0 _ w hr hf)
  have HV := Lib.hid (set_va (z0.take n0))
  have HLN := Lib.hid (set_len (z0.take n0))
  have HLS := Lib.hid (set_lst (z0.take n0))
  generalize mkSet (z0.take n0) = s at *
  clear h0 h1 hr hf
  go_enter Try.func7, Try.ntmps7
  go_wp2_with fail
  refine HS.out.mono ?_
  rintro e w1 ⟨v, rfl, ho, hb⟩
  obtain ⟨A1, n1, cc1, rfl, hx⟩ := ho.shape
  have hn1 : n1 ≤ 12 := by have := hx.len; have := HLN.out; omega
  have hcap := hx.cap
  have hsm := hx.small
  unfold maxLen at hsm
  have HB1 := Lib.hid hb
  have HX1 := Lib.hid hx
  clear HS ho hb hx
  by_cases hn0 : 0 < n1
  · obtain ⟨b, o, u, v, hu, rfl, _, hc1, hc2, _⟩ := HX1.out.at_ (k := n1 - 1) (by omega)
    have HPU := Lib.hid (va_at HV.out hu).1
    have u1 := HPU.out.1
    have u2 := HPU.out.2.1
    have u3 := HPU.out.2.2
    simp only at u1 u2 u3
    have HL : Hid (lst 0 s = u + v) := Lib.hid (by
      have h1 := lst_take hu 0
      rw [List.take_of_length_le (by have := HX1.out.len; omega)] at h1
      exact h1)
    have huv : u + v ≤ 200 := by have := HLS.out; rw [HL.out] at this; exact this
    have hi0 : (0 : Int) < (n1 : Int) := by omega
    have hi1 : (0 : Int) ≤ (n1 : Int) - 1 := by omega
    have hi2 : (n1 : Int) - 1 < (n1 : Int) := by omega
    have hi3 : ((n1 : Int) - 1).toNat = n1 - 1 := by omega
    clear hu
    go_wp2
    go_quiet (fail)
    have HX2 := Lib.hid (HX1.out.go (below_drewN (Below.refl _ _) nq))
    have HB2 := Lib.hid (below_drewN HB1.out nq)
    have HSZ : Hid (lst 0 s ≤ more + (u + v)) := Lib.hid (by rw [HL.out]; omega)
    have z0' : 0 ≤ more + (u + v) := by omega
    have z1' : more + (u + v) ≤ 1048576 := by omega
    go_wp2_with fail
    generalize w1.drewN nq = w2 at *
    generalize more + (u + v) = size at *
    clear hi3 hc1 hc2 HL
    have HC := Lib.hid (cmpR_ok HV.out z0' z1' HSZ.out)
    obtain ⟨tw1, tw2, tw3, tw4, tw5, tw6⟩ := twice HV.out z0' z1' HSZ.out
    have HT1 := Lib.hid tw1
    have HT2 := Lib.hid tw2
    have HLC := Lib.hid (cmp_len (l := s) (a := 0) (size := size))
    clear tw1 tw2
    refine (cmp_any _ n1 cc1 s size w2 HX2.out (by omega)).mono ?_
    rintro e wk1 ⟨v, rfl, ho, hb⟩
    obtain ⟨AA, nA, cA, rfl, hx⟩ := ho.shape
    have HA := Lib.hid hx
    have HX2 := Lib.hid (HX2.out.go hb); have HBk1 := Lib.hid (Below.then HB2.out hb (Nat.le_refl _))
    clear ho hb hx
    rw [HC.out] at HA
    rw [HC.out]
    simp only at HA
    have hnA : nA ≤ 13 := by have := HA.out.len; have := HLC.out; have := HLN.out; omega
    generalize cmp 0 s size = ca at *
    clear HC
    go_wp2_with fail
    refine (cmp_any AA nA cA ca size wk1 HA.out (by omega)).mono ?_
    rintro e wk2 ⟨v, rfl, ho, hb⟩
    obtain ⟨AB, nB, cB, rfl, hx⟩ := ho.shape
    have HB := Lib.hid hx
    have HX2 := Lib.hid (HX2.out.go hb); have HA := Lib.hid (HA.out.go hb); have HBk2 := Lib.hid (Below.then HBk1.out hb (Nat.le_refl _))
    clear ho hb hx
    rw [HT1.out] at HB
    rw [HT1.out]
    simp only at HB
    go_wp2_with fail
    refine (awake_any wk2).mono ?_
    rintro e wk3 ⟨rfl, hb⟩
    have HX2 := Lib.hid (HX2.out.go hb); have HA := Lib.hid (HA.out.go hb); have HB := Lib.hid (HB.out.go hb); have HBk3 := Lib.hid (Below.then HBk2.out hb (Nat.le_refl _))
    clear hb
    go_wp2_with fail
    refine (same_yes _ _ _ _ _ _ s wk3 HB.out HX2.out).mono ?_
    rintro e wk4 ⟨rfl, hb⟩
    have HX2 := Lib.hid (HX2.out.go hb); have HA := Lib.hid (HA.out.go hb); have HB := Lib.hid (HB.out.go hb); have HBk4 := Lib.hid (Below.then HBk3.out hb (Nat.le_refl _))
    clear hb
    go_wp2_with fail
    refine (total_any AA nA cA ca wk4 HA.out (by omega)).mono ?_
    rintro e wk5 ⟨rfl, hb⟩
    have HX2 := Lib.hid (HX2.out.go hb); have HA := Lib.hid (HA.out.go hb); have HB := Lib.hid (HB.out.go hb); have HBk5 := Lib.hid (Below.then HBk4.out hb (Nat.le_refl _))
    clear hb
    go_wp2_with fail
    refine (total_any _ n1 cc1 s wk5 HX2.out (by omega)).mono ?_
    rintro e wk6 ⟨rfl, hb⟩
    have HX2 := Lib.hid (HX2.out.go hb); have HA := Lib.hid (HA.out.go hb); have HB := Lib.hid (HB.out.go hb); have HBk6 := Lib.hid (Below.then HBk5.out hb (Nat.le_refl _))
    clear hb
    generalize tot 0 ca = ta at *
    generalize tot 0 s = ts at *
    have ht := HT2.out
    subst ht
    go_wp2
    go_ret
    exact ⟨rfl, HBk6.out⟩
  · have hi0 : ¬ (0 : Int) < (n1 : Int) := by omega
    have HNil : Hid (s = []) := Lib.hid (List.eq_nil_of_length_eq_zero (by have := HX1.out.len; omega))
    have HSZ : Hid (lst 0 s ≤ more) := Lib.hid (by rw [HNil.out]; exact m0)
    have z0' : 0 ≤ more := m0
    have z1' : more ≤ 1048576 := by omega
    have HX2 := HX1
    have HB2 := HB1
    go_wp2_with fail
    generalize w1 = w2 at *
    obtain ⟨size, hsz⟩ : ∃ size, size = more := ⟨_, rfl⟩
    rw [← hsz] at HSZ z0' z1'
    rw [← hsz]
    clear hsz
    have HC := Lib.hid (cmpR_ok HV.out z0' z1' HSZ.out)
    obtain ⟨tw1, tw2, tw3, tw4, tw5, tw6⟩ := twice HV.out z0' z1' HSZ.out
    have HT1 := Lib.hid tw1
    have HT2 := Lib.hid tw2
    have HLC := Lib.hid (cmp_len (l := s) (a := 0) (size := size))
    clear tw1 tw2
    refine (cmp_any _ n1 cc1 s size w2 HX2.out (by omega)).mono ?_
    rintro e wk1 ⟨v, rfl, ho, hb⟩
    obtain ⟨AA, nA, cA, rfl, hx⟩ := ho.shape
    have HA := Lib.hid hx
    have HX2 := Lib.hid (HX2.out.go hb); have HBk1 := Lib.hid (Below.then HB2.out hb (Nat.le_refl _))
    clear ho hb hx
    rw [HC.out] at HA
    rw [HC.out]
    simp only at HA
    have hnA : nA ≤ 13 := by have := HA.out.len; have := HLC.out; have := HLN.out; omega
    generalize cmp 0 s size = ca at *
    clear HC
    go_wp2_with fail
    refine (cmp_any AA nA cA ca size wk1 HA.out (by omega)).mono ?_
    rintro e wk2 ⟨v, rfl, ho, hb⟩
    obtain ⟨AB, nB, cB, rfl, hx⟩ := ho.shape
    have HB := Lib.hid hx
    have HX2 := Lib.hid (HX2.out.go hb); have HA := Lib.hid (HA.out.go hb); have HBk2 := Lib.hid (Below.then HBk1.out hb (Nat.le_refl _))
    clear ho hb hx
    rw [HT1.out] at HB
    rw [HT1.out]
    simp only at HB
    go_wp2_with fail
    refine (awake_any wk2).mono ?_
    rintro e wk3 ⟨rfl, hb⟩
    have HX2 := Lib.hid (HX2.out.go hb); have HA := Lib.hid (HA.out.go hb); have HB := Lib.hid (HB.out.go hb); have HBk3 := Lib.hid (Below.then HBk2.out hb (Nat.le_refl _))
    clear hb
    go_wp2_with fail
    refine (same_yes _ _ _ _ _ _ s wk3 HB.out HX2.out).mono ?_
    rintro e wk4 ⟨rfl, hb⟩
    have HX2 := Lib.hid (HX2.out.go hb); have HA := Lib.hid (HA.out.go hb); have HB := Lib.hid (HB.out.go hb); have HBk4 := Lib.hid (Below.then HBk3.out hb (Nat.le_refl _))
    clear hb
    go_wp2_with fail
    refine (total_any AA nA cA ca wk4 HA.out (by omega)).mono ?_
    rintro e wk5 ⟨rfl, hb⟩
    have HX2 := Lib.hid (HX2.out.go hb); have HA := Lib.hid (HA.out.go hb); have HB := Lib.hid (HB.out.go hb); have HBk5 := Lib.hid (Below.then HBk4.out hb (Nat.le_refl _))
    clear hb
    go_wp2_with fail
    refine (total_any _ n1 cc1 s wk5 HX2.out (by omega)).mono ?_
    rintro e wk6 ⟨rfl, hb⟩
    have HX2 := Lib.hid (HX2.out.go hb); have HA := Lib.hid (HA.out.go hb); have HB := Lib.hid (HB.out.go hb); have HBk6 := Lib.hid (Below.then HBk5.out hb (Nat.le_refl _))
    clear hb
    generalize tot 0 ca = ta at *
    generalize tot 0 s = ts at *
    have ht := HT2.out
    subst ht
    go_wp2
    go_ret
    exact ⟨rfl, HBk6.out⟩
end Go.Proofs.Ytolfcoaipcaoaaa
