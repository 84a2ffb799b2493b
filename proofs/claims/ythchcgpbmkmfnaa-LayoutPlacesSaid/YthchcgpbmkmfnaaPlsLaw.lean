/-
  The law LayoutPlaces as a walk. No conditions.
-/
import Derived.Test.YthchcgpbmkmfnaaMde
import Derived.Test.YthchcgpbmkmfnaaAwk
namespace Go.Proofs.Ythchcgpbmkmfnaa
open Go.ChangeShapes Go.WideShapes Go.RowKit
set_option linter.unusedVariables false
set_option maxHeartbeats 8000000
set_option maxRecDepth 100000

theorem layoutPlaces_walk (a0 : Option Addr) (len0 cap0 : Nat) (z0 : List Int) (w : World) (w0 : IsRow .u16 w a0 len0 cap0 z0) :
    Calls Try.prog 6 #[.slice a0 len0 cap0] w fun e w' => e = .returned (.bool true) ∧ Below w.heap.size w w' := by
  obtain ⟨hrow, hfit⟩ := w0.row
  generalize z0.take len0 = L at *
  have HOF := Lib.hid (of_any a0 len0 cap0 L 30 w hrow (by omega))
  have HFT := Lib.hid (hfit.take 30)
  generalize L.take 30 = T at *
  obtain ⟨hok, hnl⟩ := typ_ok T 0
  have HTY := Lib.hid (fun b W (hW : TS W b T 0) => type_any b 0 T W hW HFT.out (by omega))
  obtain ⟨⟨n, l⟩, htv⟩ : ∃ p, typV T 0 = p := ⟨_, rfl⟩
  rw [htv] at HTY hok hnl
  simp only at hok hnl
  obtain ⟨k1, k2, k3, k4, k5, k6, k7, k8, k9, k10⟩ := made_places (n := n) hok (by omega)
  have HK9 := Lib.hid k9
  have HK10 := Lib.hid k10
  have hll : l.length ≤ 4 := by omega
  have HSZ := Lib.hid (fun A m c W (h : Exs W W.heap.size A m c l) (hm : m ≤ 40) => lc.sz n A m c l W h hm)
  have HCT := Lib.hid (fun A m c W (h : Exs W W.heap.size A m c l) (hm : m ≤ 40) => lc.ct n A m c l W h hm)
  have HPL := Lib.hid (fun i A m c W (h : Exs W W.heap.size A m c l) (hm : m ≤ 40) => lc.pl n i A m c l W h hm)
  rw [k1] at HSZ
  rw [k2] at HCT
  obtain ⟨C, hC⟩ := Int.eq_ofNat_of_zero_le (by omega : 0 ≤ ctc n l.length)
  rw [hC] at HCT HK9 HK10 k4 k5
  generalize szt n l = S at *
  have HE0 := Lib.hid k8
  clear w0 hrow hfit htv k1 k2 k3 k8 k9 k10 hC
  go_enter Try.func6, Try.ntmps6
  go_wp2_with fail
  refine HOF.out.mono ?_
  rintro e w1 ⟨b, rfl, hts, hge, hb1⟩
  have HTS := Lib.hid hts
  have HB1 := Lib.hid hb1
  clear hts hb1 HOF
  go_wp2_with fail
  refine (HTY.out b w1 HTS.out).mono ?_
  rintro e w2 ⟨A, m, c, rfl, hx, hts2, ho⟩
  have hml : m = l.length := hx.len.symm
  have hm40 : m ≤ 40 := by omega
  have hb2 := HB1.out.trans (ho.below hge HB1.out.size)
  have hb3 := (Below.refl w2.heap.size w2).alloc (Nat.le_refl _) (.cells #[.int .i64 n, .slice A m c] 24)
  have HT3 := Lib.hid (TyB.new (w := w2) (n := n) (A := A) (m := m) (c := c))
  have HX3 := Lib.hid (hx.go hb3)
  have HB3 := Lib.hid (Below.then hb2 hb3 (Nat.le_refl _))
  clear hx hts2 ho hb2 hb3 HTS HB1 HTY hml
  go_wp2_with fail
  generalize w2.alloc (.cells #[.int .i64 n, .slice A m c] 24) = w3 at *
  generalize w2.heap.size = tb at *
  refine (HSZ.out A m c w3 HX3.out hm40).mono ?_
  rintro e w4 ⟨rfl, hb⟩
  have HT4 := Lib.hid (HT3.out.go hb)
  have HX4 := Lib.hid (HX3.out.go hb)
  have HB4 := Lib.hid (Below.then HB3.out hb (Nat.le_refl _))
  clear hb HT3 HX3 HB3
  have c0 := HT4.out.cell0
  have c1 := HT4.out.cell1
  have d1 : decide (S < 1) = false := decide_eq_false (by omega)
  go_wp2_with fail
  refine (HCT.out A m c w4 HX4.out hm40).mono ?_
  rintro e w5 ⟨rfl, hb⟩
  have HT5 := Lib.hid (HT4.out.go hb)
  have HX5 := Lib.hid (HX4.out.go hb)
  have HB5 := Lib.hid (Below.then HB4.out hb (Nat.le_refl _))
  clear hb HT4 HX4 HB4 c0 c1
  have d2 : decide ((C : Int) < 1) = false := decide_eq_false (by omega)
  go_wp2_with fail
  go_loopw [6, 7] (fun ev iv wq => ∃ (j : Nat), j ≤ C ∧ iv = .int .i64 j ∧ ev = .int .i64 (endP n l j) ∧ Hid (TyB wq tb n A m c ∧ Exs wq wq.heap.size A m c l ∧ Below w.heap.size w wq)) (fun _ iv _ => C - (intOf iv).toNat)
  case atStart => exact ⟨0, by omega, rfl, by rw [HE0.out], Lib.hid ⟨HT5.out, HX5.out, HB5.out⟩⟩
  case round =>
    obtain ⟨j, hj, rfl, rfl, hh⟩ := hrel
    have HT := Lib.hid hh.out.1
    have HX := Lib.hid hh.out.2.1
    have HB := Lib.hid hh.out.2.2
    have c0 := HT.out.cell0
    have c1 := HT.out.cell1
    clear hh
    go_wp2_with fail
    refine (HCT.out A m c wr HX.out hm40).mono ?_
    rintro e w6 ⟨rfl, hb⟩
    have HT6 := Lib.hid (HT.out.go hb)
    have HX6 := Lib.hid (HX.out.go hb)
    have HB6 := Lib.hid (Below.then HB.out hb (Nat.le_refl _))
    clear hb HT HX HB c0 c1
    by_cases hjm : j < C
    · have hj1 : (j : Int) < (C : Int) := by omega
      obtain ⟨x, y, z, p1, p2, p3, p4, p5, p6, p7, p8, p9, p10⟩ := HK10.out j hj1
      have HP := Lib.hid (HPL.out j A m c w6 HX6.out hm40)
      rw [p1, p2] at HP
      unfold plv at HP
      simp only at HP
      have HN := Lib.hid p10
      generalize hE : endP n l j = E at *
      have c0 := HT6.out.cell0
      have c1 := HT6.out.cell1
      clear p1 p2 p10
      go_wp2_with fail
      refine HP.out.mono ?_
      rintro e w7 ⟨rfl, hb⟩
      have hb8 := hb.alloc hb.size (.cells #[.int .i64 x, .int .i64 y, .int .i64 z] 44)
      have HT8 := Lib.hid (HT6.out.go hb8)
      have HX8 := Lib.hid (HX6.out.go hb8)
      have HB8 := Lib.hid (Below.then HB6.out hb8 (Nat.le_refl _))
      have HP8 := Lib.hid (PlB.new (w := w7) (x := x) (y := y) (z := z))
      clear hb hb8 HT6 HX6 HB6 HP c0 c1
      have q0 := HP8.out.cell0
      have q1 := HP8.out.cell1
      have q2 := HP8.out.cell2
      have e1 : decide (x < E) = false := decide_eq_false (by omega)
      have e2 : decide (y < 1) = false := decide_eq_false (by omega)
      have e3 : decide (S < x + y) = false := decide_eq_false (by omega)
      have e4 : decide (8 ≤ x - E) = false := decide_eq_false (by omega)
      have hy0 : ¬ y = 0 := by omega
      by_cases hz : z = 6
      · subst hz
        go_wp2
        go_roundw
        case rel => exact ⟨j + 1, by omega, by go_num, by rw [HN.out], Lib.hid ⟨HT8.out, HX8.out, HB8.out⟩⟩
        case measure => simp [intOf]; omega
      · have hxy := p9 hz
        have e5 : (z != 6) = true := by simpa using hz
        go_wp2
        go_roundw
        case rel => exact ⟨j + 1, by omega, by go_num, by rw [HN.out], Lib.hid ⟨HT8.out, HX8.out, HB8.out⟩⟩
        case measure => simp [intOf]; omega
    · obtain rfl : j = C := by omega
      have hjj : ¬ (j : Int) < (j : Int) := by omega
      obtain ⟨r1, r2⟩ := HK9.out j rfl
      have d3 : decide (S - endP n l j < 8) = true := decide_eq_true r2
      generalize endP n l j = E at *
      have hE0 : -1000000 ≤ E := by omega
      go_wp2_with fail
      refine (awake8_any lc w6).mono ?_
      rintro e w7 ⟨rfl, hb⟩
      have HB7 := Lib.hid (Below.then HB6.out hb (Nat.le_refl _))
      clear hb
      go_wp2
      go_ret
      exact ⟨rfl, HB7.out⟩
end Go.Proofs.Ythchcgpbmkmfnaa
