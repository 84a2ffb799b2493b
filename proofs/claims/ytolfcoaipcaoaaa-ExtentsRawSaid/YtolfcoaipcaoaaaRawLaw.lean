/-
  The law ExtentsRaw as a walk: it returns true and changes nothing that was there. No conditions.
-/
import Derived.Test.YtolfcoaipcaoaaaAwake
namespace Go.Proofs.Ytolfcoaipcaoaaa
open Go.ChangeShapes Go.WideShapes Go.ChangeAt Go.RowKit
set_option maxHeartbeats 1600000
set_option maxRecDepth 100000

theorem extentsRaw_walk (a0 : Option Addr) (n0 c0 : Nat) (l : List (Int × Int)) (off : Int) (a2 : Option Addr) (n2 c2 : Nat) (z2 : List Int) (at_ : Int) (w : World)
    (h0 : IsExs w a0 n0 c0 l) (_h1 : (Lit.int .i64 off).wf = true) (h2 : IsRow .u16 w a2 n2 c2 z2) (h3 : (Lit.int .u8 at_).wf = true) :
    Calls Try.prog 3 #[.slice a0 n0 c0, .int .i64 off, .slice a2 n2 c2, .int .u8 at_] w fun e w' => e = .returned (.bool true) ∧ Below w.heap.size w w' := by
  obtain ⟨hr, hf⟩ := h2.row
  have HL0 := Lib.hid (show Exs w w.heap.size a0 n0 c0 l from h0)
  have HS := Lib.hid (set_any a2 n2 c2 _ w hr hf)
  have hcap := h0.cap
  have hsm := h0.small
  unfold maxLen at hsm
  obtain ⟨t0, t1⟩ := byte_bd h3
  clear h0 _h1 h2 h3 hr hf
  by_cases hn : n0 ≤ 20
  · go_enter Try.func3, Try.ntmps3
    go_wp2_with fail
    refine (few_any a0 n0 c0 w).mono ?_
    rintro e w1 ⟨rfl, rfl⟩
    rw [decide_eq_true hn]
    go_wp2_with fail
    refine HS.out.mono ?_
    rintro e w1 ⟨v, rfl, ho, hb⟩
    obtain ⟨A5, n5, c5, rfl, hx⟩ := ho.shape
    have HL1 := Lib.hid (HL0.out.go hb)
    have HX1 := Lib.hid hx
    have HB1 := Lib.hid hb
    have hn5 : n5 ≤ 12 := by have := hx.len; have := set_len (z2.take n2); omega
    have HV : Hid (vaB (mkSet (z2.take n2)) = true) := Lib.hid (vaB_yes (set_va _))
    generalize mkSet (z2.take n2) = s at *
    clear HS ho hb hx
    go_wp2_with fail
    refine (awake_any w1).mono ?_
    rintro e w2 ⟨rfl, hb⟩
    have HL2 := Lib.hid (HL1.out.go hb); have HX2 := Lib.hid (HX1.out.go hb); have HB2 := Lib.hid (Below.then HB1.out hb (Nat.le_refl _))
    clear hb
    go_wp2_with fail
    refine (valid_any a0 n0 c0 l w2 HL2.out (by omega)).mono ?_
    rintro e w3 ⟨rfl, hb⟩
    have HL3 := Lib.hid (HL2.out.go hb); have HX3 := Lib.hid (HX2.out.go hb); have HB3 := Lib.hid (Below.then HB2.out hb (Nat.le_refl _))
    clear hb
    go_wp2_with fail
    refine (validR_any a0 n0 c0 l w3 HL3.out (by omega)).mono ?_
    rintro e w4 ⟨rfl, hb⟩
    have HL4 := Lib.hid (HL3.out.go hb); have HX4 := Lib.hid (HX3.out.go hb); have HB4 := Lib.hid (Below.then HB3.out hb (Nat.le_refl _))
    clear hb
    generalize vaB l = b1 at *
    go_wp2_with fail
    refine (contains_any a0 n0 c0 l off w4 HL4.out (by omega)).mono ?_
    rintro e w5 ⟨rfl, hb⟩
    have HL5 := Lib.hid (HL4.out.go hb); have HX5 := Lib.hid (HX4.out.go hb); have HB5 := Lib.hid (Below.then HB4.out hb (Nat.le_refl _))
    clear hb
    go_wp2_with fail
    refine (containsR_any a0 n0 c0 l off w5 HL5.out (by omega)).mono ?_
    rintro e w6 ⟨rfl, hb⟩
    have HL6 := Lib.hid (HL5.out.go hb); have HX6 := Lib.hid (HX5.out.go hb); have HB6 := Lib.hid (Below.then HB5.out hb (Nat.le_refl _))
    clear hb
    generalize cnt l off = b2 at *
    go_wp2_with fail
    refine (total_any a0 n0 c0 l w6 HL6.out (by omega)).mono ?_
    rintro e w7 ⟨rfl, hb⟩
    have HL7 := Lib.hid (HL6.out.go hb); have HX7 := Lib.hid (HX6.out.go hb); have HB7 := Lib.hid (Below.then HB6.out hb (Nat.le_refl _))
    clear hb
    go_wp2_with fail
    refine (totalR_any a0 n0 c0 l w7 HL7.out (by omega)).mono ?_
    rintro e w8 ⟨rfl, hb⟩
    have HX8 := Lib.hid (HX7.out.go hb); have HB8 := Lib.hid (Below.then HB7.out hb (Nat.le_refl _))
    clear hb
    generalize tot 0 l = b3 at *
    go_wp2_with fail
    refine (valid_any A5 n5 c5 s w8 HX8.out (by omega)).mono ?_
    rintro e w9 ⟨rfl, hb⟩
    have HX9 := Lib.hid (HX8.out.go hb); have HB9 := Lib.hid (Below.then HB8.out hb (Nat.le_refl _))
    clear hb
    rw [HV.out]
    go_wp2_with fail
    refine (contains_any A5 n5 c5 s at_ w9 HX9.out (by omega)).mono ?_
    rintro e w10 ⟨rfl, hb⟩
    have HX10 := Lib.hid (HX9.out.go hb); have HB10 := Lib.hid (Below.then HB9.out hb (Nat.le_refl _))
    clear hb
    go_wp2_with fail
    refine (containsR_any A5 n5 c5 s at_ w10 HX10.out (by omega)).mono ?_
    rintro e w11 ⟨rfl, hb⟩
    have HX11 := Lib.hid (HX10.out.go hb); have HB11 := Lib.hid (Below.then HB10.out hb (Nat.le_refl _))
    clear hb
    generalize cnt s at_ = b4 at *
    go_wp2_with fail
    refine (total_any A5 n5 c5 s w11 HX11.out (by omega)).mono ?_
    rintro e w12 ⟨rfl, hb⟩
    have HX12 := Lib.hid (HX11.out.go hb); have HB12 := Lib.hid (Below.then HB11.out hb (Nat.le_refl _))
    clear hb
    go_wp2_with fail
    refine (totalR_any A5 n5 c5 s w12 HX12.out (by omega)).mono ?_
    rintro e w13 ⟨rfl, hb⟩
    have HB13 := Lib.hid (Below.then HB12.out hb (Nat.le_refl _))
    clear hb
    generalize tot 0 s = b5 at *
    go_wp2
    go_ret
    exact ⟨rfl, HB13.out⟩
  · go_enter Try.func3, Try.ntmps3
    go_wp2_with fail
    refine (few_any a0 n0 c0 w).mono ?_
    rintro e w1 ⟨rfl, rfl⟩
    rw [decide_eq_false hn]
    go_wp2_with fail
    refine (awake_any w).mono ?_
    rintro e w2 ⟨rfl, hb⟩
    go_wp2
    go_ret
    exact ⟨rfl, hb⟩
end Go.Proofs.Ytolfcoaipcaoaaa
