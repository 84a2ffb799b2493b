/-
  Contract of the reference model's Check of types. Conditions: at most forty fields.
-/
import Derived.Test.YtgddlpabgeeflaaLaR
namespace Go.Proofs.Ytgddlpabgeeflaa
open Go.ChangeShapes Go.WideShapes Go.RowKit
set_option linter.unusedVariables false
set_option maxHeartbeats 8000000
set_option maxRecDepth 100000

theorem chk_e {n : Int} {l : List (Int × Int)} (h1 : ¬ n < 0) (h2 : ¬ 65536 < n) (h3 : ¬ ((n = 0 ∧ l.length = 0) ∨ (0 < n ∧ l.length ≠ 1))) (h4 : ¬ 32 < l.length) (h5 : fErr l ≠ 0) : chk n l = fErr l := by
  unfold chk
  rw [if_neg h1, if_neg h2, if_neg h3, if_neg h4, if_pos h5]
theorem chk_f {n : Int} {l : List (Int × Int)} (h1 : ¬ n < 0) (h2 : ¬ 65536 < n) (h3 : ¬ ((n = 0 ∧ l.length = 0) ∨ (0 < n ∧ l.length ≠ 1))) (h4 : ¬ 32 < l.length) (h5 : fErr l = 0) :
    chk n l = if 0 < n then (if 65536 < wdt (l.getD 0 (0, 0)) * n then 4 else 0) else if 65536 < upk (fin_ l 0) (mst l 1) then 4 else 0 := by
  unfold chk
  rw [if_neg h1, if_neg h2, if_neg h3, if_neg h4, if_neg (fun h => h h5)]
theorem checkR_any (n : Int) (A : Option Addr) (m c : Nat) (l : List (Int × Int)) (w : World) (h : Exs w w.heap.size A m c l) (hm : m ≤ 40) :
    Calls Try.prog 26 #[.agg #[.int .i64 n, .slice A m c]] w (Says w (.int .i64 (chk n l))) := by
  have hb0 : Below w.heap.size w (w.alloc (.cells #[.int .i64 n, .slice A m c] 35)) := (Below.refl _ _).alloc (Nat.le_refl _) _
  have HB0 := Lib.hid hb0
  have HT0 := Lib.hid (TyB.new (w := w) (n := n) (A := A) (m := m) (c := c))
  have HX0 := Lib.hid (h.go hb0)
  have hcap := h.cap
  have hsm := h.small
  have HLN := Lib.hid h.len
  unfold maxLen at hsm
  clear h hb0
  by_cases h1 : n < 0
  · have d1 : decide (n < 0) = true := decide_eq_true h1
    have HC : Hid (chk n l = 3) := Lib.hid (by unfold chk; simp only [HLN.out]; rw [if_pos h1])
    go_enter Try.func26, Try.ntmps26
    go_wp2
    go_ret
    exact ⟨by rw [HC.out]; rfl, HB0.out⟩
  have d1 : decide (n < 0) = false := decide_eq_false h1
  by_cases h2 : 65536 < n
  · have d2 : decide (65536 < n) = true := decide_eq_true h2
    have HC : Hid (chk n l = 4) := Lib.hid (by unfold chk; simp only [HLN.out]; rw [if_neg h1, if_pos h2])
    go_enter Try.func26, Try.ntmps26
    go_wp2
    go_ret
    exact ⟨by rw [HC.out]; rfl, HB0.out⟩
  have d2 : decide (65536 < n) = false := decide_eq_false h2
  by_cases h3 : n = 0
  · subst h3
    by_cases h4 : m = 0
    · subst h4
      have HC : Hid (chk 0 l = 3) := Lib.hid (by unfold chk; rw [HLN.out]; rfl)
      go_enter Try.func26, Try.ntmps26
      go_wp2
      go_ret
      exact ⟨by rw [HC.out]; rfl, HB0.out⟩
    have q4 : ((m : Int) == 0) = false := by simp; omega
    by_cases h5 : 32 < m
    · have q5 : (32 : Int) < (m : Int) := by omega
      have HC : Hid (chk 0 l = 4) := Lib.hid (by unfold chk; simp only [HLN.out]; rw [if_neg h1, if_neg h2, if_neg (by omega), if_pos (by omega)])
      go_enter Try.func26, Try.ntmps26
      go_wp2
      go_ret
      exact ⟨by rw [HC.out]; rfl, HB0.out⟩
    have q5 : ¬ (32 : Int) < (m : Int) := by omega
    have HNC : Hid (¬ (((0 : Int) = 0 ∧ l.length = 0) ∨ ((0 : Int) < 0 ∧ l.length ≠ 1)) ∧ ¬ 32 < l.length) := Lib.hid (by rw [HLN.out]; omega)
    have HE := Lib.hid (fun h5 => chk_e (l := l) h1 h2 HNC.out.1 HNC.out.2 h5)
    have HF := Lib.hid (fun h5 => chk_f (l := l) h1 h2 HNC.out.1 HNC.out.2 h5)
    have c0 := HT0.out.cell0
    have c1 := HT0.out.cell1
    go_enter Try.func26, Try.ntmps26
    go_wp2_with fail
    generalize w.alloc (.cells #[.int .i64 0, .slice A m c] 35) = w1 at *
    generalize htb : w.heap.size = tb at *
    go_loopw [3] (fun iv wq => ∃ (j : Nat), j ≤ m ∧ iv = .int .i64 j ∧ Hid (fErr (l.take j) = 0 ∧ Below w1.heap.size w1 wq)) (fun iv _ => m - (intOf iv).toNat)
    case atStart => exact ⟨0, by omega, rfl, Lib.hid ⟨rfl, Below.refl _ _⟩⟩
    case round =>
      obtain ⟨j, hj, rfl, hh⟩ := hrel
      have HJ := Lib.hid hh.out.1
      have HB := Lib.hid hh.out.2
      have HT := Lib.hid (HT0.out.go HB.out)
      have c0 := HT.out.cell0
      have c1 := HT.out.cell1
      have hsz := HB.out.size
      have htl := HT0.out.lt
      clear hh
      by_cases hjm : j < m
      · have hj1 : (j : Int) < (m : Int) := by omega
        obtain ⟨b, o, u, v, hu, rfl, hb, g0, g1, _⟩ := (HX0.out.below HB.out).at_ hjm
        have HU := Lib.hid hu
        have HBE : Hid (Below tb w (wr.alloc (.cells #[.int .i64 u, .int .i64 v] 45))) := Lib.hid (Below.trans HB0.out ((HB.out.alloc hsz _).mono (by omega)))
        have HBN : Hid (Below w1.heap.size w1 (wr.alloc (.cells #[.int .i64 u, .int .i64 v] 45))) := Lib.hid (HB.out.alloc hsz _)
        have HER := Lib.hid (fun he => (HE.out (by rw [fErr_at HJ.out HU.out he]; exact he)).trans (fErr_at HJ.out HU.out he))
        have HNX := Lib.hid (fun he => fErr_next HJ.out HU.out he)
        clear hu hb
        by_cases f1 : u < 1
        · have e1 : decide (u < 1) = true := decide_eq_true f1
          have HV : Hid (errF (u, v) = 8) := Lib.hid (by unfold errF; dsimp only; rw [if_pos (by omega)])
          have HC := Lib.hid (HER.out (by rw [HV.out]; omega))
          go_wp2
          go_ret
          exact ⟨by rw [HC.out, HV.out]; rfl, by rw [htb]; exact HBE.out⟩
        have e1 : decide (u < 1) = false := decide_eq_false f1
        by_cases f2 : 6 < u
        · have e2 : decide (6 < u) = true := decide_eq_true f2
          have HV : Hid (errF (u, v) = 8) := Lib.hid (by unfold errF; dsimp only; rw [if_pos (by omega)])
          have HC := Lib.hid (HER.out (by rw [HV.out]; omega))
          go_wp2
          go_ret
          exact ⟨by rw [HC.out, HV.out]; rfl, by rw [htb]; exact HBE.out⟩
        have e2 : decide (6 < u) = false := decide_eq_false f2
        by_cases f3 : u = 6
        · subst f3
          by_cases f4 : v < 1
          · have e4 : decide (v < 1) = true := decide_eq_true f4
            have HV : Hid (errF (6, v) = 3) := Lib.hid (by unfold errF; dsimp only; rw [if_neg (by omega), if_pos (by omega)])
            have HC := Lib.hid (HER.out (by rw [HV.out]; omega))
            go_wp2
            go_ret
            exact ⟨by rw [HC.out, HV.out]; rfl, by rw [htb]; exact HBE.out⟩
          have e4 : decide (v < 1) = false := decide_eq_false f4
          by_cases f5 : 65536 < v
          · have e5 : decide (65536 < v) = true := decide_eq_true f5
            have HV : Hid (errF (6, v) = 4) := Lib.hid (by unfold errF; dsimp only; rw [if_neg (by omega), if_neg (by omega), if_pos (by omega)])
            have HC := Lib.hid (HER.out (by rw [HV.out]; omega))
            go_wp2
            go_ret
            exact ⟨by rw [HC.out, HV.out]; rfl, by rw [htb]; exact HBE.out⟩
          have e5 : decide (65536 < v) = false := decide_eq_false f5
          have HV : Hid (errF (6, v) = 0) := Lib.hid (by unfold errF; dsimp only; rw [if_neg (by omega), if_neg (by omega), if_neg (by omega)])
          have HNN := Lib.hid (HNX.out HV.out)
          go_wp2
          go_roundw
          case rel => exact ⟨j + 1, by omega, by go_num, Lib.hid ⟨HNN.out, HBN.out⟩⟩
          case measure => simp [intOf]; omega
        have e3 : (u == 6) = false := by simpa using f3
        have e6 : (u != 6) = true := by simpa using f3
        by_cases f4 : v = 0
        · subst f4
          have HV : Hid (errF (u, 0) = 0) := Lib.hid (by unfold errF; dsimp only; rw [if_neg (by omega), if_neg (by omega), if_neg (by omega)])
          have HNN := Lib.hid (HNX.out HV.out)
          go_wp2
          go_roundw
          case rel => exact ⟨j + 1, by omega, by go_num, Lib.hid ⟨HNN.out, HBN.out⟩⟩
          case measure => simp [intOf]; omega
        have e4 : (v != 0) = true := by simpa using f4
        have HV : Hid (errF (u, v) = 3) := Lib.hid (by unfold errF; dsimp only; rw [if_neg (by omega), if_pos (by omega)])
        have HC := Lib.hid (HER.out (by rw [HV.out]; omega))
        go_wp2
        go_ret
        exact ⟨by rw [HC.out, HV.out]; rfl, by rw [htb]; exact HBE.out⟩
      · obtain rfl : j = m := by omega
        have hjj : ¬ (j : Int) < (j : Int) := by omega
        rw [List.take_of_length_le (by rw [HLN.out]; omega)] at HJ
        have HC := Lib.hid (HF.out HJ.out)
        have HOK := Lib.hid (fErr_0 HJ.out)
        have HPL := Lib.hid (placesR_any A j c l wr ((HX0.out.below HB.out).more hsz) (by omega) HOK.out)
        have hcz : chk 0 l = if 65536 < upk (fin_ l 0) (mst l 1) then 4 else 0 := HC.out
        have HCZ := Lib.hid hcz
        clear hcz HC
        go_wp2_with fail
        refine HPL.out.mono ?_
        generalize upk (fin_ l 0) (mst l 1) = sz at *
        rintro e w2 ⟨vp, rfl, ho, hb2⟩
        have HB2 : Hid (Below tb w w2) := Lib.hid (Below.trans HB0.out ((Below.then HB.out hb2 (Nat.le_refl _)).mono (by omega)))
        obtain ⟨A', n', c', rfl, _⟩ := ho.shape
        clear ho hb2 HPL
        by_cases hbig : 65536 < sz
        · have HCC : Hid (chk 0 l = 4) := Lib.hid (by rw [HCZ.out, if_pos hbig])
          have e1 : decide (65536 < sz) = true := decide_eq_true hbig
          go_wp2
          go_ret
          exact ⟨by rw [HCC.out]; rfl, by rw [htb]; exact HB2.out⟩
        · have HCC : Hid (chk 0 l = 0) := Lib.hid (by rw [HCZ.out, if_neg hbig])
          have e1 : decide (65536 < sz) = false := decide_eq_false hbig
          go_wp2
          go_ret
          exact ⟨by rw [HCC.out]; rfl, by rw [htb]; exact HB2.out⟩
  have q3 : (n == 0) = false := by simpa using h3
  have q6 : 0 < n := by omega
  by_cases h4 : m = 1
  · have q4 : ((m : Int) != 1) = false := by simp; omega
    have q5 : ¬ (32 : Int) < (m : Int) := by omega
    have HNC : Hid (¬ (((n : Int) = 0 ∧ l.length = 0) ∨ ((0 : Int) < n ∧ l.length ≠ 1)) ∧ ¬ 32 < l.length) := Lib.hid (by rw [HLN.out]; omega)
    have HE := Lib.hid (fun h5 => chk_e (l := l) h1 h2 HNC.out.1 HNC.out.2 h5)
    have HF := Lib.hid (fun h5 => chk_f (l := l) h1 h2 HNC.out.1 HNC.out.2 h5)
    have c0 := HT0.out.cell0
    have c1 := HT0.out.cell1
    have H4 := Lib.hid h4
    clear h4
    go_enter Try.func26, Try.ntmps26
    go_wp2_with fail
    generalize w.alloc (.cells #[.int .i64 n, .slice A m c] 35) = w1 at *
    generalize htb : w.heap.size = tb at *
    go_loopw [3] (fun iv wq => ∃ (j : Nat), j ≤ m ∧ iv = .int .i64 j ∧ Hid (fErr (l.take j) = 0 ∧ Below w1.heap.size w1 wq)) (fun iv _ => m - (intOf iv).toNat)
    case atStart => exact ⟨0, by omega, rfl, Lib.hid ⟨rfl, Below.refl _ _⟩⟩
    case round =>
      obtain ⟨j, hj, rfl, hh⟩ := hrel
      have HJ := Lib.hid hh.out.1
      have HB := Lib.hid hh.out.2
      have HT := Lib.hid (HT0.out.go HB.out)
      have c0 := HT.out.cell0
      have c1 := HT.out.cell1
      have hsz := HB.out.size
      have htl := HT0.out.lt
      clear hh
      by_cases hjm : j < m
      · have hj1 : (j : Int) < (m : Int) := by omega
        obtain ⟨b, o, u, v, hu, rfl, hb, g0, g1, _⟩ := (HX0.out.below HB.out).at_ hjm
        have HU := Lib.hid hu
        have HBE : Hid (Below tb w (wr.alloc (.cells #[.int .i64 u, .int .i64 v] 45))) := Lib.hid (Below.trans HB0.out ((HB.out.alloc hsz _).mono (by omega)))
        have HBN : Hid (Below w1.heap.size w1 (wr.alloc (.cells #[.int .i64 u, .int .i64 v] 45))) := Lib.hid (HB.out.alloc hsz _)
        have HER := Lib.hid (fun he => (HE.out (by rw [fErr_at HJ.out HU.out he]; exact he)).trans (fErr_at HJ.out HU.out he))
        have HNX := Lib.hid (fun he => fErr_next HJ.out HU.out he)
        clear hu hb
        by_cases f1 : u < 1
        · have e1 : decide (u < 1) = true := decide_eq_true f1
          have HV : Hid (errF (u, v) = 8) := Lib.hid (by unfold errF; dsimp only; rw [if_pos (by omega)])
          have HC := Lib.hid (HER.out (by rw [HV.out]; omega))
          go_wp2
          go_ret
          exact ⟨by rw [HC.out, HV.out]; rfl, by rw [htb]; exact HBE.out⟩
        have e1 : decide (u < 1) = false := decide_eq_false f1
        by_cases f2 : 6 < u
        · have e2 : decide (6 < u) = true := decide_eq_true f2
          have HV : Hid (errF (u, v) = 8) := Lib.hid (by unfold errF; dsimp only; rw [if_pos (by omega)])
          have HC := Lib.hid (HER.out (by rw [HV.out]; omega))
          go_wp2
          go_ret
          exact ⟨by rw [HC.out, HV.out]; rfl, by rw [htb]; exact HBE.out⟩
        have e2 : decide (6 < u) = false := decide_eq_false f2
        by_cases f3 : u = 6
        · subst f3
          by_cases f4 : v < 1
          · have e4 : decide (v < 1) = true := decide_eq_true f4
            have HV : Hid (errF (6, v) = 3) := Lib.hid (by unfold errF; dsimp only; rw [if_neg (by omega), if_pos (by omega)])
            have HC := Lib.hid (HER.out (by rw [HV.out]; omega))
            go_wp2
            go_ret
            exact ⟨by rw [HC.out, HV.out]; rfl, by rw [htb]; exact HBE.out⟩
          have e4 : decide (v < 1) = false := decide_eq_false f4
          by_cases f5 : 65536 < v
          · have e5 : decide (65536 < v) = true := decide_eq_true f5
            have HV : Hid (errF (6, v) = 4) := Lib.hid (by unfold errF; dsimp only; rw [if_neg (by omega), if_neg (by omega), if_pos (by omega)])
            have HC := Lib.hid (HER.out (by rw [HV.out]; omega))
            go_wp2
            go_ret
            exact ⟨by rw [HC.out, HV.out]; rfl, by rw [htb]; exact HBE.out⟩
          have e5 : decide (65536 < v) = false := decide_eq_false f5
          have HV : Hid (errF (6, v) = 0) := Lib.hid (by unfold errF; dsimp only; rw [if_neg (by omega), if_neg (by omega), if_neg (by omega)])
          have HNN := Lib.hid (HNX.out HV.out)
          go_wp2
          go_roundw
          case rel => exact ⟨j + 1, by omega, by go_num, Lib.hid ⟨HNN.out, HBN.out⟩⟩
          case measure => simp [intOf]; omega
        have e3 : (u == 6) = false := by simpa using f3
        have e6 : (u != 6) = true := by simpa using f3
        by_cases f4 : v = 0
        · subst f4
          have HV : Hid (errF (u, 0) = 0) := Lib.hid (by unfold errF; dsimp only; rw [if_neg (by omega), if_neg (by omega), if_neg (by omega)])
          have HNN := Lib.hid (HNX.out HV.out)
          go_wp2
          go_roundw
          case rel => exact ⟨j + 1, by omega, by go_num, Lib.hid ⟨HNN.out, HBN.out⟩⟩
          case measure => simp [intOf]; omega
        have e4 : (v != 0) = true := by simpa using f4
        have HV : Hid (errF (u, v) = 3) := Lib.hid (by unfold errF; dsimp only; rw [if_neg (by omega), if_pos (by omega)])
        have HC := Lib.hid (HER.out (by rw [HV.out]; omega))
        go_wp2
        go_ret
        exact ⟨by rw [HC.out, HV.out]; rfl, by rw [htb]; exact HBE.out⟩
      · obtain rfl : j = m := by omega
        have hjj : ¬ (j : Int) < (j : Int) := by omega
        rw [List.take_of_length_le (by rw [HLN.out]; omega)] at HJ
        have HC := Lib.hid (HF.out HJ.out)
        have HOK := Lib.hid (fErr_0 HJ.out)
        have h4 := H4.out
        subst h4
        obtain ⟨b, o, u, v, hu, rfl, hb, g0, g1, _⟩ := (HX0.out.below HB.out).at_ (k := 0) (by omega)
        have hget : l.getD 0 (0, 0) = (u, v) := by rw [List.getD_eq_getElem?_getD, hu]; rfl
        have hwd := wdt_bd (HOK.out _ (List.mem_of_getElem? hu))
        rw [hget, if_pos (by omega)] at HC
        simp only [Nat.zero_mul, Nat.add_zero] at g0 g1
        have HW := Lib.hid (widthR_any u v wr)
        have hmul : wdt (u, v) * n ≤ 65536 * 65536 := Int.mul_le_mul hwd.2 (by omega) (by omega) (by omega)
        have hmul0 : 0 ≤ wdt (u, v) * n := Int.mul_nonneg (by omega) (by omega)
        generalize wdt (u, v) = wd at *
        generalize aln (u, v) = al at *
        obtain ⟨wn, hwn⟩ : ∃ wn, wd * n = wn := ⟨_, rfl⟩
        rw [hwn] at HC hmul hmul0
        clear hu hb hget
        go_wp2_with fail
        refine HW.out.mono ?_
        rintro e w2 ⟨rfl, hb2⟩
        have HT2 := Lib.hid (HT.out.go hb2)
        have c0 := HT2.out.cell0
        have HB2 : Hid (Below tb w w2) := Lib.hid (Below.trans HB0.out ((Below.then HB.out hb2 (Nat.le_refl _)).mono (by omega)))
        clear hb2 HW
        by_cases hbig : 65536 < wn
        · have HCC : Hid (chk n l = 4) := Lib.hid (by rw [HC.out, if_pos hbig])
          have e1 : decide (65536 < wn) = true := decide_eq_true hbig
          go_wp2
          go_ret
          exact ⟨by rw [HCC.out]; rfl, by rw [htb]; exact HB2.out⟩
        · have HCC : Hid (chk n l = 0) := Lib.hid (by rw [HC.out, if_neg hbig])
          have e1 : decide (65536 < wn) = false := decide_eq_false hbig
          go_wp2
          go_ret
          exact ⟨by rw [HCC.out]; rfl, by rw [htb]; exact HB2.out⟩
  have q4 : ((m : Int) != 1) = true := by simp; omega
  have HC : Hid (chk n l = 3) := Lib.hid (by unfold chk; simp only [HLN.out]; rw [if_neg h1, if_neg h2, if_pos (by omega)])
  go_enter Try.func26, Try.ntmps26
  go_wp2
  go_ret
  exact ⟨by rw [HC.out]; rfl, HB0.out⟩
end Go.Proofs.Ytgddlpabgeeflaa
