/-
  The law ExtentsRemove as a walk: it returns true and changes nothing that was there. No conditions.
-/
import Derived.Test.YtolfcoaipcaoaaaAwake
import Derived.Test.YtolfcoaipcaoaaaRemR
import Derived.Test.YtolfcoaipcaoaaaOpen
namespace Go.Proofs.Ytolfcoaipcaoaaa
open Go.ChangeShapes Go.WideShapes Go.ChangeAt Go.RowKit
set_option maxHeartbeats 1600000
set_option maxRecDepth 100000

theorem i64_bd {n : Int} (h : (Lit.int .i64 n).wf = true) : -9223372036854775808 ≤ n ∧ n ≤ 9223372036854775807 := by
  have := Go.bounds_i64 h
  omega

theorem extentsRemove_walk (a0 : Option Addr) (n0 c0 : Nat) (l : List (Int × Int)) (x y : Int) (a2 : Option Addr) (n2 c2 : Nat) (z2 : List Int) (k from_ size : Int) (w : World)
    (h0 : IsExs w a0 n0 c0 l) (h1 : (Lit.int .i64 x).wf = true) (h1' : (Lit.int .i64 y).wf = true) (h2 : IsRow .u16 w a2 n2 c2 z2) (hk : (Lit.int .u8 k).wf = true) (h3 : (Lit.int .u8 from_).wf = true) (h4 : (Lit.int .u8 size).wf = true) :
    Calls Try.prog 5 #[.slice a0 n0 c0, .agg #[.int .i64 x, .int .i64 y], .slice a2 n2 c2, .int .u8 k, .int .u8 from_, .int .u8 size] w fun e w' => e = .returned (.bool true) ∧ Below w.heap.size w w' := by
  obtain ⟨hr, hf⟩ := h2.row
  have hb0 : Below w.heap.size w (w.alloc (.cells #[.int .i64 x, .int .i64 y] 31)) := (Below.refl _ _).alloc (Nat.le_refl _) _
  have HL0 := Lib.hid (Exs.go h0 hb0)
  have HR0 := Lib.hid (hr.go hb0)
  have HF := Lib.hid hf
  have HB0 := Lib.hid hb0
  obtain ⟨x0, x1⟩ := i64_bd h1
  obtain ⟨y0, y1⟩ := i64_bd h1'
  obtain ⟨k0, k1⟩ := byte_bd hk
  obtain ⟨o0, o1⟩ := byte_bd h3
  obtain ⟨s0, s1⟩ := byte_bd h4
  have hcap := h0.cap
  have hsm := h0.small
  unfold maxLen at hsm
  have HE0 := Lib.hid (Box.new (w := w) (x := x) (y := y))
  clear h0 h1 h1' h2 h3 h4 hk hr hf hb0
  by_cases hn : n0 ≤ 20
  · go_enter Try.func5, Try.ntmps5
    go_wp2_with fail
    refine (few_any a0 n0 c0 _).mono ?_
    rintro e w1 ⟨rfl, rfl⟩
    rw [decide_eq_true hn]
    generalize w.alloc (.cells #[.int .i64 x, .int .i64 y] 31) = w0 at *
    have f0 := HE0.out.cell0
    have f1 := HE0.out.cell1
    go_wp2_with fail
    refine (remove_any a0 n0 c0 l x y w0 HL0.out (by omega) x0 x1 y0 y1).mono ?_
    rintro e w1 ⟨v1, rfl, ho, hb⟩
    obtain ⟨A1, n1, c1, rfl, hx⟩ := ho.shape
    have HX1 := Lib.hid hx
    have HL1 := Lib.hid (HL0.out.go hb); have HR1 := Lib.hid (HR0.out.go hb); have HE1 := Lib.hid (HE0.out.go hb); have HB1 := Lib.hid (Below.then HB0.out hb (Nat.le_refl _))
    clear ho hb hx f0 f1
    have f0 := HE1.out.cell0
    have f1 := HE1.out.cell1
    go_wp2_with fail
    refine (removeR_any a0 n0 c0 l x y w1 HL1.out (by omega) x0 x1 y0 y1).mono ?_
    rintro e w2 ⟨v2, rfl, ho, hb⟩
    obtain ⟨A2, n3, c3, rfl, hx⟩ := ho.shape
    have HX2 := Lib.hid hx
    have HX1 := Lib.hid (HX1.out.go hb); have HR2 := Lib.hid (HR1.out.go hb); have HB2 := Lib.hid (Below.then HB1.out hb (Nat.le_refl _))
    clear ho hb hx f0 f1 HE1 HE0
    generalize (remR l (x, y)).1 = l1 at *
    generalize (remR l (x, y)).2 = r1 at *
    go_wp2_with fail
    refine (set_any a2 n2 c2 _ w2 HR2.out HF.out).mono ?_
    rintro e w3 ⟨v3, rfl, ho, hb⟩
    obtain ⟨A3, n5, c5, rfl, hx⟩ := ho.shape
    have hn5 : n5 ≤ 12 := by have := hx.len; have := set_len (z2.take n2); omega
    have HV := Lib.hid (set_va (z2.take n2))
    have HX3 := Lib.hid hx
    have HX1 := Lib.hid (HX1.out.go hb); have HX2 := Lib.hid (HX2.out.go hb); have HB3 := Lib.hid (Below.then HB2.out hb (Nat.le_refl _))
    generalize mkSet (z2.take n2) = s at *
    have hcap5 := hx.cap
    have hsm5 := hx.small
    unfold maxLen at hsm5
    clear ho hb hx HR0 HR1 HR2 HL0 HL1
    have t2 : 0 ≤ size % 9 := by omega
    have t3 : size % 9 < 9 := by omega
    have t4 : 0 ≤ from_ % 6 := by omega
    have t5 : from_ % 6 < 6 := by omega
    by_cases h5 : 0 < n5
    · obtain ⟨m, hm⟩ : ∃ m : Nat, k % (n5 : Int) = (m : Int) := ⟨(k % (n5 : Int)).toNat, by have := Int.emod_nonneg k (show (n5 : Int) ≠ 0 by omega); omega⟩
      have hm5 : m < n5 := by
        have := Int.emod_lt_of_pos k (show (0 : Int) < (n5 : Int) by omega)
        omega
      obtain ⟨b, o, u, v, hu, rfl, hbb, hc1, hc2, _⟩ := HX3.out.at_ hm5
      have HPU := Lib.hid (va_at HV.out hu).1
      have u1 := HPU.out.1
      have u3 := HPU.out.2.2
      have u2 := HPU.out.2.1
      simp only at u1 u2 u3
      have hn6 : (0 : Int) < (n5 : Int) := by omega
      have hm6 : (m : Int) < (n5 : Int) := by omega
      have b1 : -1 ≤ u + from_ % 6 - 1 := by omega
      have b2 : u + from_ % 6 - 1 ≤ 1048600 := by omega
      have hc3 := cell_under hc1 (.cells #[.int .i64 from_, .int .i64 (size % 9)] 31)
      clear hu hbb hc1 hc2
      go_wp2_with fail
      generalize u + from_ % 6 - 1 = fo at *
      generalize size % 9 = fl at *
      clear hm hc3
      have HE5 := Lib.hid (Box.new (w := w3) (x := fo) (y := fl))
      have hb5 : Below w3.heap.size w3 (w3.alloc (.cells #[.int .i64 fo, .int .i64 fl] 31)) := (Below.refl _ _).alloc (Nat.le_refl _) _
      have HX1' := Lib.hid (HX1.out.go hb5); have HX2' := Lib.hid (HX2.out.go hb5); have HX3' := Lib.hid (HX3.out.go hb5); have HFBB := Lib.hid (Below.then HB3.out hb5 (Nat.le_refl _))
      generalize w3.alloc (.cells #[.int .i64 fo, .int .i64 fl] 31) = w5 at *
      clear hb5
      have f0 := HE5.out.cell0
      have f1 := HE5.out.cell1
      have HX1 := HX1'; have HX2 := HX2'; have HX3 := HX3'
      have HFB := HFBB
      refine (remove_any _ n5 c5 s fo fl w5 HX3.out (by omega) (by omega) (by omega) (by omega) (by omega)).mono ?_
      rintro e w6 ⟨v6, rfl, ho, hb⟩
      obtain ⟨A6, n6', c6, rfl, hx⟩ := ho.shape
      have HX6 := Lib.hid hx
      have HX1 := Lib.hid (HX1.out.go hb); have HX2 := Lib.hid (HX2.out.go hb); have HX3 := Lib.hid (HX3.out.go hb); have HE6 := Lib.hid (HE5.out.go hb); have HB6 := Lib.hid (Below.then HFB.out hb (Nat.le_refl _))
      clear ho hb hx f0 f1 HE5
      have f0 := HE6.out.cell0
      have f1 := HE6.out.cell1
      go_wp2_with fail
      refine (removeR_any _ n5 c5 s fo fl w6 HX3.out (by omega) (by omega) (by omega) (by omega) (by omega)).mono ?_
      rintro e w7 ⟨v7, rfl, ho, hb⟩
      obtain ⟨A7, n7, c7, rfl, hx⟩ := ho.shape
      have HX7 := Lib.hid hx
      have HX1 := Lib.hid (HX1.out.go hb); have HX2 := Lib.hid (HX2.out.go hb); have HX6 := Lib.hid (HX6.out.go hb); have HB7 := Lib.hid (Below.then HB6.out hb (Nat.le_refl _))
      clear ho hb hx f0 f1 HE6
      generalize (remR s (fo, fl)).1 = l2 at *
      generalize (remR s (fo, fl)).2 = r2 at *
      go_wp2_with fail
      refine (awake_any _).mono ?_
      rintro e w8 ⟨rfl, hb⟩
      have HX1 := Lib.hid (HX1.out.go hb); have HX2 := Lib.hid (HX2.out.go hb); have HX6 := Lib.hid (HX6.out.go hb); have HX7 := Lib.hid (HX7.out.go hb); have HB8 := Lib.hid (Below.then HB7.out hb (Nat.le_refl _))
      clear hb
      go_wp2_with fail
      refine (same_yes _ _ _ _ _ _ _ _ HX1.out HX2.out).mono ?_
      rintro e w9 ⟨rfl, hb⟩
      have HX6 := Lib.hid (HX6.out.go hb); have HX7 := Lib.hid (HX7.out.go hb); have HB9 := Lib.hid (Below.then HB8.out hb (Nat.le_refl _))
      clear hb
      go_wp2_with fail
      refine (same_yes _ _ _ _ _ _ _ _ HX6.out HX7.out).mono ?_
      rintro e w10 ⟨rfl, hb⟩
      have HB10 := Lib.hid (Below.then HB9.out hb (Nat.le_refl _))
      clear hb
      go_wp2
      go_ret
      exact ⟨rfl, HB10.out⟩
    · have h5' : ¬ (0 : Int) < (n5 : Int) := by omega
      have b1 : -1 ≤ from_ := by omega
      have b2 : from_ ≤ 1048600 := by omega
      go_wp2_with fail
      generalize size % 9 = fl at *
      obtain ⟨fo, hfo⟩ : ∃ fo, fo = from_ := ⟨_, rfl⟩
      rw [← hfo] at b1 b2
      rw [← hfo]
      clear hfo
      have HE5 := Lib.hid (Box.new (w := w3) (x := fo) (y := fl))
      have hb5 : Below w3.heap.size w3 (w3.alloc (.cells #[.int .i64 fo, .int .i64 fl] 31)) := (Below.refl _ _).alloc (Nat.le_refl _) _
      have HX1' := Lib.hid (HX1.out.go hb5); have HX2' := Lib.hid (HX2.out.go hb5); have HX3' := Lib.hid (HX3.out.go hb5); have HFBB := Lib.hid (Below.then HB3.out hb5 (Nat.le_refl _))
      generalize w3.alloc (.cells #[.int .i64 fo, .int .i64 fl] 31) = w5 at *
      clear hb5
      have f0 := HE5.out.cell0
      have f1 := HE5.out.cell1
      have HX1 := HX1'; have HX2 := HX2'; have HX3 := HX3'
      have HFB := HFBB
      refine (remove_any _ n5 c5 s fo fl w5 HX3.out (by omega) (by omega) (by omega) (by omega) (by omega)).mono ?_
      rintro e w6 ⟨v6, rfl, ho, hb⟩
      obtain ⟨A6, n6', c6, rfl, hx⟩ := ho.shape
      have HX6 := Lib.hid hx
      have HX1 := Lib.hid (HX1.out.go hb); have HX2 := Lib.hid (HX2.out.go hb); have HX3 := Lib.hid (HX3.out.go hb); have HE6 := Lib.hid (HE5.out.go hb); have HB6 := Lib.hid (Below.then HFB.out hb (Nat.le_refl _))
      clear ho hb hx f0 f1 HE5
      have f0 := HE6.out.cell0
      have f1 := HE6.out.cell1
      go_wp2_with fail
      refine (removeR_any _ n5 c5 s fo fl w6 HX3.out (by omega) (by omega) (by omega) (by omega) (by omega)).mono ?_
      rintro e w7 ⟨v7, rfl, ho, hb⟩
      obtain ⟨A7, n7, c7, rfl, hx⟩ := ho.shape
      have HX7 := Lib.hid hx
      have HX1 := Lib.hid (HX1.out.go hb); have HX2 := Lib.hid (HX2.out.go hb); have HX6 := Lib.hid (HX6.out.go hb); have HB7 := Lib.hid (Below.then HB6.out hb (Nat.le_refl _))
      clear ho hb hx f0 f1 HE6
      generalize (remR s (fo, fl)).1 = l2 at *
      generalize (remR s (fo, fl)).2 = r2 at *
      go_wp2_with fail
      refine (awake_any _).mono ?_
      rintro e w8 ⟨rfl, hb⟩
      have HX1 := Lib.hid (HX1.out.go hb); have HX2 := Lib.hid (HX2.out.go hb); have HX6 := Lib.hid (HX6.out.go hb); have HX7 := Lib.hid (HX7.out.go hb); have HB8 := Lib.hid (Below.then HB7.out hb (Nat.le_refl _))
      clear hb
      go_wp2_with fail
      refine (same_yes _ _ _ _ _ _ _ _ HX1.out HX2.out).mono ?_
      rintro e w9 ⟨rfl, hb⟩
      have HX6 := Lib.hid (HX6.out.go hb); have HX7 := Lib.hid (HX7.out.go hb); have HB9 := Lib.hid (Below.then HB8.out hb (Nat.le_refl _))
      clear hb
      go_wp2_with fail
      refine (same_yes _ _ _ _ _ _ _ _ HX6.out HX7.out).mono ?_
      rintro e w10 ⟨rfl, hb⟩
      have HB10 := Lib.hid (Below.then HB9.out hb (Nat.le_refl _))
      clear hb
      go_wp2
      go_ret
      exact ⟨rfl, HB10.out⟩
  · go_enter Try.func5, Try.ntmps5
    go_wp2_with fail
    refine (few_any a0 n0 c0 _).mono ?_
    rintro e w1 ⟨rfl, rfl⟩
    rw [decide_eq_false hn]
    go_wp2_with fail
    refine (awake_any _).mono ?_
    rintro e w2 ⟨rfl, hb⟩
    go_wp2
    go_ret
    exact ⟨rfl, Below.then HB0.out hb (Nat.le_refl _)⟩
end Go.Proofs.Ytolfcoaipcaoaaa
