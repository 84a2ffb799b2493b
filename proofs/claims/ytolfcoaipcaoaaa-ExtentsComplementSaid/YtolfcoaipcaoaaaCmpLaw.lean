/-
  The law ExtentsComplement as a walk: it returns true and changes nothing that was there. No conditions.
-/
import Derived.Test.YtolfcoaipcaoaaaAwake
import Derived.Test.YtolfcoaipcaoaaaCmp
namespace Go.Proofs.Ytolfcoaipcaoaaa
open Go.ChangeShapes Go.WideShapes Go.ChangeAt Go.RowKit
set_option maxHeartbeats 1600000
set_option maxRecDepth 100000

theorem extentsComplement_walk (a0 : Option Addr) (n0 c0 : Nat) (l : List (Int × Int)) (size : Int) (a2 : Option Addr) (n2 c2 : Nat) (z2 : List Int) (k : Int) (w : World)
    (h0 : IsExs w a0 n0 c0 l) (_h1 : (Lit.int .i64 size).wf = true) (h2 : IsRow .u16 w a2 n2 c2 z2) (h3 : (Lit.int .u8 k).wf = true) :
    Calls Try.prog 6 #[.slice a0 n0 c0, .int .i64 size, .slice a2 n2 c2, .int .u8 k] w fun e w' => e = .returned (.bool true) ∧ Below w.heap.size w w' := by
  obtain ⟨hr, hf⟩ := h2.row
  have HL := Lib.hid (show Exs w w.heap.size a0 n0 c0 l from h0)
  have HR := Lib.hid hr
  have HF := Lib.hid hf
  have HB0 := Lib.hid (Below.refl w.heap.size w)
  obtain ⟨k0, k1⟩ := byte_bd h3
  have hcap := h0.cap
  have hsm := h0.small
  unfold maxLen at hsm
  clear h0 _h1 h2 h3 hr hf
  by_cases hn : n0 ≤ 20
  · go_enter Try.func6, Try.ntmps6
    go_wp2_with fail
    refine (few_any a0 n0 c0 _).mono ?_
    rintro e w1 ⟨rfl, rfl⟩
    rw [decide_eq_true hn]
    go_wp2_with fail
    refine (cmp_any a0 n0 c0 l size w HL.out (by omega)).mono ?_
    rintro e wk1 ⟨v, rfl, ho, hb⟩
    obtain ⟨AA, nA, cA, rfl, hx⟩ := ho.shape
    have HA := Lib.hid hx
    have HL := Lib.hid (HL.out.go hb); have HR := Lib.hid (HR.out.go hb); have HBk1 := Lib.hid (Below.then HB0.out hb (Nat.le_refl _))
    clear ho hb hx
    go_wp2_with fail
    refine (cmpR_any a0 n0 c0 l size wk1 HL.out (by omega)).mono ?_
    rintro e wk2 ⟨v, rfl, ho, hb⟩
    obtain ⟨AB, nB, cB, rfl, hx⟩ := ho.shape
    have HB := Lib.hid hx
    have HL := Lib.hid (HL.out.go hb); have HR := Lib.hid (HR.out.go hb); have HA := Lib.hid (HA.out.go hb); have HBk2 := Lib.hid (Below.then HBk1.out hb (Nat.le_refl _))
    clear ho hb hx
    generalize (cmpR l size).1 = l1 at *
    generalize (cmpR l size).2 = r1 at *
    go_wp2_with fail
    refine (set_any a2 n2 c2 _ wk2 HR.out HF.out).mono ?_
    rintro e wk3 ⟨v, rfl, ho, hb⟩
    obtain ⟨AS, nS, cS, rfl, hx⟩ := ho.shape
    have HS := Lib.hid hx
    have HL := Lib.hid (HL.out.go hb); have HR := Lib.hid (HR.out.go hb); have HA := Lib.hid (HA.out.go hb); have HB := Lib.hid (HB.out.go hb); have HBk3 := Lib.hid (Below.then HBk2.out hb (Nat.le_refl _))
    clear ho hb hx
    have hnS : nS ≤ 12 := by have := HS.out.len; have := set_len (z2.take n2); omega
    generalize mkSet (z2.take n2) = s at *
    go_wp2_with fail
    refine (cmp_any AS nS cS s (k * 2) wk3 HS.out (by omega)).mono ?_
    rintro e wk4 ⟨v, rfl, ho, hb⟩
    obtain ⟨AC, nC, cC, rfl, hx⟩ := ho.shape
    have HC := Lib.hid hx
    have HA := Lib.hid (HA.out.go hb); have HB := Lib.hid (HB.out.go hb); have HS := Lib.hid (HS.out.go hb); have HBk4 := Lib.hid (Below.then HBk3.out hb (Nat.le_refl _))
    clear ho hb hx
    go_wp2_with fail
    refine (cmpR_any AS nS cS s (k * 2) wk4 HS.out (by omega)).mono ?_
    rintro e wk5 ⟨v, rfl, ho, hb⟩
    obtain ⟨AD, nD, cD, rfl, hx⟩ := ho.shape
    have HD := Lib.hid hx
    have HA := Lib.hid (HA.out.go hb); have HB := Lib.hid (HB.out.go hb); have HS := Lib.hid (HS.out.go hb); have HC := Lib.hid (HC.out.go hb); have HBk5 := Lib.hid (Below.then HBk4.out hb (Nat.le_refl _))
    clear ho hb hx
    generalize (cmpR s (k * 2)).1 = l2 at *
    generalize (cmpR s (k * 2)).2 = r2 at *
    go_wp2_with fail
    refine (awake_any wk5).mono ?_
    rintro e wk6 ⟨rfl, hb⟩
    have HA := Lib.hid (HA.out.go hb); have HB := Lib.hid (HB.out.go hb); have HS := Lib.hid (HS.out.go hb); have HC := Lib.hid (HC.out.go hb); have HD := Lib.hid (HD.out.go hb); have HBk6 := Lib.hid (Below.then HBk5.out hb (Nat.le_refl _))
    clear hb
    go_wp2_with fail
    refine (same_yes _ _ _ _ _ _ _ wk6 HA.out HB.out).mono ?_
    rintro e wk7 ⟨rfl, hb⟩
    have HA := Lib.hid (HA.out.go hb); have HB := Lib.hid (HB.out.go hb); have HS := Lib.hid (HS.out.go hb); have HC := Lib.hid (HC.out.go hb); have HD := Lib.hid (HD.out.go hb); have HBk7 := Lib.hid (Below.then HBk6.out hb (Nat.le_refl _))
    clear hb
    go_wp2_with fail
    refine (same_yes _ _ _ _ _ _ _ wk7 HC.out HD.out).mono ?_
    rintro e wk8 ⟨rfl, hb⟩
    have HA := Lib.hid (HA.out.go hb); have HB := Lib.hid (HB.out.go hb); have HS := Lib.hid (HS.out.go hb); have HC := Lib.hid (HC.out.go hb); have HD := Lib.hid (HD.out.go hb); have HBk8 := Lib.hid (Below.then HBk7.out hb (Nat.le_refl _))
    clear hb
    go_wp2
    go_ret
    exact ⟨rfl, HBk8.out⟩
  · go_enter Try.func6, Try.ntmps6
    go_wp2_with fail
    refine (few_any a0 n0 c0 _).mono ?_
    rintro e w1 ⟨rfl, rfl⟩
    rw [decide_eq_false hn]
    go_wp2_with fail
    refine (awake_any w).mono ?_
    rintro e w2 ⟨rfl, hb⟩
    go_wp2
    go_ret
    exact ⟨rfl, hb⟩
end Go.Proofs.Ytolfcoaipcaoaaa
