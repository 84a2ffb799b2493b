/-
  Contracts of the reference model's Count, Size and Place of types. Conditions: at most forty fields.
-/
import Derived.Test.YthchcgpbmkmfnaaLaC
namespace Go.Proofs.Ythchcgpbmkmfnaa
open Go.ChangeShapes Go.WideShapes Go.RowKit
set_option linter.unusedVariables false
set_option maxHeartbeats 8000000
set_option maxRecDepth 100000

theorem countR_any (n : Int) (A : Option Addr) (m c : Nat) (l : List (Int × Int)) (w : World) (h : Exs w w.heap.size A m c l) (hm : m ≤ 40) :
    Calls Try.prog 22 #[.agg #[.int .i64 n, .slice A m c]] w (Says w (.int .i64 (cnt n l))) := by
  have hb0 : Below w.heap.size w (w.alloc (.cells #[.int .i64 n, .slice A m c] 24)) := (Below.refl _ _).alloc (Nat.le_refl _) _
  have HB0 := Lib.hid hb0
  have HT0 := Lib.hid (TyB.new (w := w) (n := n) (A := A) (m := m) (c := c))
  have HX0 := Lib.hid (h.go hb0)
  have hcap := h.cap
  have hsm := h.small
  have HLN := Lib.hid h.len
  unfold maxLen at hsm
  have H := Lib.hid (checkR_any n A m c l _ (h.go hb0) hm)
  have HC : Hid (cnt n l = if chk n l = 0 then if 0 < n then n else (m : Int) else 0) := Lib.hid (by unfold cnt; rw [h.len])
  generalize chk n l = k at *
  generalize cnt n l = r at *
  clear h hb0
  go_enter Try.func22, Try.ntmps22
  go_wp2_with fail
  refine H.out.mono ?_
  generalize w.alloc (.cells #[.int .i64 n, .slice A m c] 24) = w1 at *
  generalize htb : w.heap.size = tb at *
  rintro e w2 ⟨rfl, hb2⟩
  have HT2 := Lib.hid (HT0.out.go hb2)
  have HB2 := Lib.hid (Below.trans HB0.out (hb2.mono (Nat.le_of_lt HT0.out.lt)))
  have c0 := HT2.out.cell0
  have c1 := HT2.out.cell1
  clear hb2 H
  by_cases hk : k = 0
  · subst hk
    by_cases h0 : 0 < n
    · have HR : Hid (r = n) := Lib.hid (by rw [HC.out, if_pos rfl, if_pos h0])
      go_wp2
      go_ret
      exact ⟨by rw [HR.out]; rfl, by rw [htb]; exact HB2.out⟩
    · have HR : Hid (r = (m : Int)) := Lib.hid (by rw [HC.out, if_pos rfl, if_neg h0])
      have e1 : decide (0 < n) = false := decide_eq_false h0
      go_wp2
      go_ret
      exact ⟨by rw [HR.out]; rfl, by rw [htb]; exact HB2.out⟩
  · have HR : Hid (r = 0) := Lib.hid (by rw [HC.out, if_neg hk])
    have e1 : (k != 0) = true := by simpa using hk
    go_wp2
    go_ret
    exact ⟨by rw [HR.out]; rfl, by rw [htb]; exact HB2.out⟩
theorem sizeR_any' (n : Int) (A : Option Addr) (m c : Nat) (l : List (Int × Int)) (w : World) (h : Exs w w.heap.size A m c l) (hm : m ≤ 40) :
    Calls Try.prog 18 #[.agg #[.int .i64 n, .slice A m c]] w (Says w (.tuple #[.int .i64 (szt n l), .int .i64 (chk n l)])) := by
  have hb0 : Below w.heap.size w (w.alloc (.cells #[.int .i64 n, .slice A m c] 24)) := (Below.refl _ _).alloc (Nat.le_refl _) _
  have HB0 := Lib.hid hb0
  have HT0 := Lib.hid (TyB.new (w := w) (n := n) (A := A) (m := m) (c := c))
  have HX0 := Lib.hid (h.go hb0)
  have hcap := h.cap
  have hsm := h.small
  have HLN := Lib.hid h.len
  unfold maxLen at hsm
  have H := Lib.hid (checkR_any n A m c l _ (h.go hb0) hm)
  have HC : Hid (szt n l = if chk n l = 0 then if 0 < n then wdt (l.getD 0 (0, 0)) * n else upk (fin_ l 0) (mst l 1) else 0) := Lib.hid rfl
  have HK := Lib.hid (fun h0 => chk_0 (n := n) (l := l) h0)
  generalize chk n l = k at *
  generalize szt n l = r at *
  clear h hb0
  go_enter Try.func18, Try.ntmps18
  go_wp2_with fail
  refine H.out.mono ?_
  generalize w.alloc (.cells #[.int .i64 n, .slice A m c] 24) = w1 at *
  generalize htb : w.heap.size = tb at *
  rintro e w2 ⟨rfl, hb2⟩
  have HT2 := Lib.hid (HT0.out.go hb2)
  have HX2 := Lib.hid (HX0.out.go hb2)
  have HB2 := Lib.hid (Below.trans HB0.out (hb2.mono (Nat.le_of_lt HT0.out.lt)))
  have hle := HB2.out.size
  have c0 := HT2.out.cell0
  have c1 := HT2.out.cell1
  clear hb2 H
  by_cases hk : k = 0
  · subst hk
    obtain ⟨n0, n1, _, hok, hcase⟩ := HK.out rfl
    have HOK := Lib.hid hok
    clear hok
    rcases hcase with ⟨h0, hl1, hsz⟩ | ⟨h0, hl1, hsz⟩
    · have hm1 : m = 1 := by rw [← HLN.out]; exact hl1
      subst hm1
      obtain ⟨b, o, u, v, hu, rfl, hb, g0, g1, _⟩ := HX2.out.at_ (k := 0) (by omega)
      have hget : l.getD 0 (0, 0) = (u, v) := by rw [List.getD_eq_getElem?_getD, hu]; rfl
      have hwd := wdt_bd (HOK.out _ (List.mem_of_getElem? hu))
      have HR : Hid (r = wdt (u, v) * n) := Lib.hid (by rw [HC.out, if_pos rfl, if_pos h0, hget])
      rw [hget] at hsz
      simp only [Nat.zero_mul, Nat.add_zero] at g0 g1
      have HW := Lib.hid (widthR_any u v w2)
      have hmul0 : 0 ≤ wdt (u, v) * n := Int.mul_nonneg (by omega) (by omega)
      generalize wdt (u, v) = wd at *
      generalize aln (u, v) = al at *
      obtain ⟨wn, hwn⟩ : ∃ wn, wd * n = wn := ⟨_, rfl⟩
      rw [hwn] at HR hmul0 hsz
      clear hu hb hget
      go_wp2_with fail
      refine HW.out.mono ?_
      rintro e w3 ⟨rfl, hb3⟩
      have HT3 := Lib.hid (HT2.out.go hb3)
      have c0 := HT3.out.cell0
      have HB3 : Hid (Below tb w w3) := Lib.hid (Below.trans HB2.out (hb3.mono (by omega)))
      clear hb3 HW
      go_wp2
      go_ret2
      exact ⟨by rw [HR.out]; rfl, by rw [htb]; exact HB3.out⟩
    · subst h0
      have HR : Hid (r = upk (fin_ l 0) (mst l 1)) := Lib.hid (by rw [HC.out, if_pos rfl, if_neg (by omega)])
      have HPL := Lib.hid (placesR_any A m c l w2 HX2.out hm HOK.out)
      generalize upk (fin_ l 0) (mst l 1) = sz at *
      go_wp2_with fail
      refine HPL.out.mono ?_
      rintro e w3 ⟨vp, rfl, ho, hb3⟩
      have HB3 : Hid (Below tb w w3) := Lib.hid (Below.trans HB2.out (hb3.mono (by omega)))
      obtain ⟨A', n', c', rfl, _⟩ := ho.shape
      clear ho hb3 HPL
      go_wp2
      go_ret2
      exact ⟨by rw [HR.out]; rfl, by rw [htb]; exact HB3.out⟩
  · have HR : Hid (r = 0) := Lib.hid (by rw [HC.out, if_neg hk])
    have e1 : (k != 0) = true := by simpa using hk
    go_wp2
    go_ret2
    exact ⟨by rw [HR.out]; rfl, by rw [htb]; exact HB2.out⟩

/-- A box with a place. -/
def PlB (w : World) (b : Nat) (x y z : Int) : Prop := w.heap[b]? = some (.cells #[.int .i64 x, .int .i64 y, .int .i64 z] 44 (0, 0))
section
variable {w w' : World} {b : Nat} {x y z : Int}
theorem PlB.new : PlB (w.alloc (.cells #[.int .i64 x, .int .i64 y, .int .i64 z] 44)) w.heap.size x y z := heap_alloc_new w _
theorem PlB.lt (h : PlB w b x y z) : b < w.heap.size := (Array.getElem?_eq_some_iff.1 h).1
theorem PlB.go (h : PlB w b x y z) (hb : Below w.heap.size w w') : PlB w' b x y z := (hb.block b h.lt).trans h
theorem PlB.cell0 (h : PlB w b x y z) : w.cell? ⟨b, 0, none⟩ = some (.int .i64 x) := cell_of_row w b 0 _ _ _ h
theorem PlB.cell1 (h : PlB w b x y z) : w.cell? ⟨b, 1, none⟩ = some (.int .i64 y) := cell_of_row w b 1 _ _ _ h
theorem PlB.cell2 (h : PlB w b x y z) : w.cell? ⟨b, 2, none⟩ = some (.int .i64 z) := cell_of_row w b 2 _ _ _ h
theorem PlB.fr (h : PlB w b x y z) (j : Nat) : w.frozen? ⟨b, j, none⟩ = false := frozen_of_row w b j _ _ h
theorem PlB.set (h : PlB w b x y z) (x' y' z' : Int) : PlB (((w.setCell ⟨b, 0, none⟩ (.int .i64 x')).setCell ⟨b, 1, none⟩ (.int .i64 y')).setCell ⟨b, 2, none⟩ (.int .i64 z')) b x' y' z' := by
  exact heap_setCell_same _ b 2 _ _ _ (heap_setCell_same _ b 1 _ _ _ (heap_setCell_same w b 0 _ _ _ h))
theorem below_set3 {B : Nat} (h : Below B w w') (hB : B ≤ b) (u0 u1 u2 : Value) : Below B w (((w'.setCell ⟨b, 0, none⟩ u0).setCell ⟨b, 1, none⟩ u1).setCell ⟨b, 2, none⟩ u2) :=
  ((h.setCell (p := ⟨b, 0, none⟩) hB u0).setCell (p := ⟨b, 1, none⟩) hB u1).setCell (p := ⟨b, 2, none⟩) hB u2
end
/-- A place, as a value. -/
def plv (p : Int × Int × Int) : Value := .agg #[.int .i64 p.1, .int .i64 p.2.1, .int .i64 p.2.2]
theorem placeR_any (n i : Int) (A : Option Addr) (m c : Nat) (l : List (Int × Int)) (w : World) (h : Exs w w.heap.size A m c l) (hm : m ≤ 40) :
    Calls Try.prog 19 #[.agg #[.int .i64 n, .slice A m c], .int .i64 i] w (Says w (.tuple #[plv (plV n l i), .int .i64 (plE n l i)])) := by
  have hb0 : Below w.heap.size w (w.alloc (.cells #[.int .i64 n, .slice A m c] 24)) := (Below.refl _ _).alloc (Nat.le_refl _) _
  have hs0 : (w.alloc (.cells #[.int .i64 n, .slice A m c] 24)).heap.size = w.heap.size + 1 := by simp
  have hb1 : Below (w.alloc (.cells #[.int .i64 n, .slice A m c] 24)).heap.size (w.alloc (.cells #[.int .i64 n, .slice A m c] 24)) ((w.alloc (.cells #[.int .i64 n, .slice A m c] 24)).alloc (.cells #[.int .i64 0, .int .i64 0, .int .i64 0] 44)) := (Below.refl _ _).alloc (Nat.le_refl _) _
  have HT0 := Lib.hid ((TyB.new (w := w) (n := n) (A := A) (m := m) (c := c)).go hb1)
  have hp := PlB.new (w := w.alloc (.cells #[.int .i64 n, .slice A m c] 24)) (x := 0) (y := 0) (z := 0)
  rw [hs0] at hp
  have HP0 := Lib.hid hp
  have HX0 := Lib.hid ((h.go hb0).go hb1)
  have HB0 := Lib.hid (Below.then hb0 hb1 (Nat.le_refl _))
  have hcap := h.cap
  have hsm := h.small
  have HLN := Lib.hid h.len
  unfold maxLen at hsm
  have H := Lib.hid (checkR_any n A m c l _ ((h.go hb0).go hb1) hm)
  have HE : Hid (plE n l i = if chk n l = 0 then if i < 0 ∨ cnt n l ≤ i then 6 else 0 else chk n l) := Lib.hid rfl
  have HV : Hid (plV n l i = if plE n l i = 0 then if 0 < n then (i * wdt (l.getD 0 (0, 0)), wdt (l.getD 0 (0, 0)), (l.getD 0 (0, 0)).1) else (plc l 0).getD i.toNat (0, 0, 0) else (0, 0, 0)) := Lib.hid rfl
  have HK := Lib.hid (fun h0 => chk_0 (n := n) (l := l) h0)
  have HN : Hid (chk n l = 0 → cnt n l = if 0 < n then n else (m : Int)) := Lib.hid (fun h0 => by unfold cnt; rw [if_pos h0, h.len])
  have HCT := Lib.hid (fun W (hW : Exs W W.heap.size A m c l) => countR_any n A m c l W hW hm)
  generalize chk n l = k at *
  generalize cnt n l = ct at *
  generalize plE n l i = er at *
  generalize plV n l i = pv at *
  clear h hb0 hb1 hp
  go_enter Try.func19, Try.ntmps19
  go_wp2_with fail
  refine H.out.mono ?_
  generalize (w.alloc (.cells #[.int .i64 n, .slice A m c] 24)).alloc (.cells #[.int .i64 0, .int .i64 0, .int .i64 0] 44) = w1 at *
  clear hs0
  rintro e w2 ⟨rfl, hb2⟩
  have HT2 := Lib.hid (HT0.out.go hb2)
  have HX2 := Lib.hid (HX0.out.go hb2)
  have HP2 := Lib.hid (HP0.out.go hb2)
  have HB2 := Lib.hid (Below.then HB0.out hb2 (Nat.le_refl _))
  clear hb2 H
  have b0 := HT2.out.cell0
  have b1 := HT2.out.cell1
  by_cases hk : k = 0
  · subst hk
    have HE1 : Hid (er = if i < 0 ∨ ct ≤ i then 6 else 0) := Lib.hid (by rw [HE.out, if_pos rfl])
    clear HE
    obtain ⟨n0, n1, _, hok, hcase⟩ := HK.out rfl
    have hct := HN.out rfl
    have HOK := Lib.hid hok
    clear hok
    by_cases hi0 : i < 0
    · have e1 : decide (i < 0) = true := decide_eq_true hi0
      have HRE : Hid (er = 6) := Lib.hid (by rw [HE1.out, if_pos (by omega)])
      have HRV : Hid (pv = (0, 0, 0)) := Lib.hid (by rw [HV.out, HRE.out]; rfl)
      have q0 := HP2.out.cell0
      have q1 := HP2.out.cell1
      have q2 := HP2.out.cell2
      have q3 := HP2.out.fr 0
      have q4 := HP2.out.fr 1
      have q5 := HP2.out.fr 2
      have HPF := Lib.hid (HP2.out.set (0) (0) (0))
      have HBF := Lib.hid (below_set3 (b := w.heap.size + 1) HB2.out (by omega) (.int .i64 (0)) (.int .i64 (0)) (.int .i64 (0)))
      go_wp2
      generalize ((w2.setCell ⟨w.heap.size + 1, 0, none⟩ (.int .i64 (0))).setCell ⟨w.heap.size + 1, 1, none⟩ (.int .i64 (0))).setCell ⟨w.heap.size + 1, 2, none⟩ (.int .i64 (0)) = wf at *
      have k0 := HPF.out.cell0
      have k1 := HPF.out.cell1
      have k2 := HPF.out.cell2
      exact bodyPost_ret (v := .tuple #[.agg #[.int .i64 (0), .int .i64 (0), .int .i64 (0)], .int .i64 (6)]) (by simp [results, Try.results19, go_sem, k0, k1, k2]) rfl ⟨by rw [HRV.out, HRE.out]; rfl, HBF.out⟩
    have e1 : decide (i < 0) = false := decide_eq_false hi0
    have hcb : 0 < ct ∧ ct ≤ 65536 := by
      rw [hct]
      rcases hcase with ⟨h0, hl1, _⟩ | ⟨h0, hl1, _⟩
      · rw [if_pos h0]; omega
      · rw [if_neg (by omega)]
        have := HLN.out
        omega
    have HC2 := Lib.hid (HCT.out w2 HX2.out)
    have HCN := Lib.hid hct
    have HCA := Lib.hid hcase
    clear HCT hct hcase HN
    go_wp2_with fail
    refine HC2.out.mono ?_
    rintro e w3 ⟨rfl, hb3⟩
    have HT3 := Lib.hid (HT2.out.go hb3)
    have HX3 := Lib.hid (HX2.out.go hb3)
    have HP3 := Lib.hid (HP2.out.go hb3)
    have HB3 := Lib.hid (Below.then HB2.out hb3 (Nat.le_refl _))
    have b0 := HT3.out.cell0
    have b1 := HT3.out.cell1
    clear hb3 HC2
    by_cases hic : ct ≤ i
    · have e2 : decide (ct ≤ i) = true := decide_eq_true hic
      have HRE : Hid (er = 6) := Lib.hid (by rw [HE1.out, if_pos (by omega)])
      have HRV : Hid (pv = (0, 0, 0)) := Lib.hid (by rw [HV.out, HRE.out]; rfl)
      have q0 := HP3.out.cell0
      have q1 := HP3.out.cell1
      have q2 := HP3.out.cell2
      have q3 := HP3.out.fr 0
      have q4 := HP3.out.fr 1
      have q5 := HP3.out.fr 2
      have HPF := Lib.hid (HP3.out.set (0) (0) (0))
      have HBF := Lib.hid (below_set3 (b := w.heap.size + 1) HB3.out (by omega) (.int .i64 (0)) (.int .i64 (0)) (.int .i64 (0)))
      go_wp2
      generalize ((w3.setCell ⟨w.heap.size + 1, 0, none⟩ (.int .i64 (0))).setCell ⟨w.heap.size + 1, 1, none⟩ (.int .i64 (0))).setCell ⟨w.heap.size + 1, 2, none⟩ (.int .i64 (0)) = wf at *
      have k0 := HPF.out.cell0
      have k1 := HPF.out.cell1
      have k2 := HPF.out.cell2
      exact bodyPost_ret (v := .tuple #[.agg #[.int .i64 (0), .int .i64 (0), .int .i64 (0)], .int .i64 (6)]) (by simp [results, Try.results19, go_sem, k0, k1, k2]) rfl ⟨by rw [HRV.out, HRE.out]; rfl, HBF.out⟩
    have e2 : decide (ct ≤ i) = false := decide_eq_false hic
    have HRE : Hid (er = 0) := Lib.hid (by rw [HE1.out, if_neg (by omega)])
    rw [HRE.out, if_pos rfl] at HV
    obtain ⟨I, rfl⟩ := Int.eq_ofNat_of_zero_le (by omega : 0 ≤ i)
    rcases HCA.out with ⟨h0, hl1, hsz⟩ | ⟨h0, hl1, hsz⟩
    · have hm1 : m = 1 := by rw [← HLN.out]; exact hl1
      subst hm1
      obtain ⟨b, o, u, v, hu, rfl, hb, g0, g1, _⟩ := HX3.out.at_ (k := 0) (by omega)
      have hget : l.getD 0 (0, 0) = (u, v) := by rw [List.getD_eq_getElem?_getD, hu]; rfl
      have hwd := wdt_bd (HOK.out _ (List.mem_of_getElem? hu))
      rw [hget, if_pos h0] at HV
      have hIn : (I : Int) < n := by have := HCN.out; rw [if_pos h0] at this; omega
      have HRV0 := Lib.hid HV.out
      simp only [Nat.zero_mul, Nat.add_zero] at g0 g1
      have HW := Lib.hid (widthR_any u v w3)
      have hmul0 : 0 ≤ (I : Int) * wdt (u, v) := Int.mul_nonneg (by omega) (by omega)
      have hmul : (I : Int) * wdt (u, v) ≤ 65536 * 65536 := Int.mul_le_mul (by omega) hwd.2 (by omega) (by omega)
      generalize wdt (u, v) = wd at *
      generalize aln (u, v) = al at *
      obtain ⟨iw, hiw⟩ : ∃ iw, (I : Int) * wd = iw := ⟨_, rfl⟩
      rw [hiw] at HRV0 hmul hmul0
      have HRV := HRV0
      have HU := Lib.hid hu
      clear hu hb hget HV
      go_wp2_with fail
      refine HW.out.mono ?_
      rintro e w4 ⟨rfl, hb4⟩
      have HT4 := Lib.hid (HT3.out.go hb4)
      have HX4 := Lib.hid (HX3.out.go hb4)
      have HP4 := Lib.hid (HP3.out.go hb4)
      have HB4 := Lib.hid (Below.then HB3.out hb4 (Nat.le_refl _))
      have b0 := HT4.out.cell0
      have b1 := HT4.out.cell1
      obtain ⟨b', o', u', v', hu', e', _, g0', g1', _⟩ := HX4.out.at_ (k := 0) (by omega)
      cases e'
      rw [HU.out] at hu'
      cases hu'
      simp only [Nat.zero_mul, Nat.add_zero] at g0' g1'
      clear hb4 HW g0 g1
      have q0 := HP4.out.cell0
      have q1 := HP4.out.cell1
      have q2 := HP4.out.cell2
      have q3 := HP4.out.fr 0
      have q4 := HP4.out.fr 1
      have q5 := HP4.out.fr 2
      have HPF := Lib.hid (HP4.out.set (iw) (wd) (u))
      have HBF := Lib.hid (below_set3 (b := w.heap.size + 1) HB4.out (by omega) (.int .i64 (iw)) (.int .i64 (wd)) (.int .i64 (u)))
      go_wp2
      generalize ((w4.setCell ⟨w.heap.size + 1, 0, none⟩ (.int .i64 (iw))).setCell ⟨w.heap.size + 1, 1, none⟩ (.int .i64 (wd))).setCell ⟨w.heap.size + 1, 2, none⟩ (.int .i64 (u)) = wf at *
      have k0 := HPF.out.cell0
      have k1 := HPF.out.cell1
      have k2 := HPF.out.cell2
      exact bodyPost_ret (v := .tuple #[.agg #[.int .i64 (iw), .int .i64 (wd), .int .i64 (u)], .int .i64 (0)]) (by simp [results, Try.results19, go_sem, k0, k1, k2]) rfl ⟨by rw [HRV.out, HRE.out]; rfl, HBF.out⟩
    · subst h0
      rw [if_neg (by omega)] at HV
      have hIm : I < m := by have := HCN.out; rw [if_neg (by omega)] at this; omega
      have HPL := Lib.hid (placesR_any A m c l w3 HX3.out hm HOK.out)
      have hplen := plc_len (l := l) (a := 0)
      generalize upk (fin_ l 0) (mst l 1) = sz at *
      generalize plc l 0 = ps at *
      go_wp2_with fail
      refine HPL.out.mono ?_
      rintro e w4 ⟨vp, rfl, ho, hb4⟩
      have HP4 := Lib.hid (HP3.out.go hb4)
      have HB4 := Lib.hid (Below.then HB3.out hb4 (Nat.le_refl _))
      obtain ⟨A', n', c', rfl, hx⟩ := ho.shape
      have hn' : n' = m := by rw [← hx.len, hplen, HLN.out]
      subst hn'
      obtain ⟨b, o, ⟨x, y, z⟩, hu, rfl, hb, hcell⟩ := hx.at_ hIm
      have g0 := hcell 0 _ rfl
      have g1 := hcell 1 _ rfl
      have g2 := hcell 2 _ rfl
      simp only [show int3.k = 3 from rfl, Nat.add_zero] at g0 g1 g2
      have HRV : Hid (pv = (x, y, z)) := Lib.hid (by rw [HV.out, List.getD_eq_getElem?_getD, Int.toNat_natCast, hu]; rfl)
      have hsm' := hx.small
      have hcp' := hx.cap
      unfold maxLen at hsm'
      clear ho hb4 HPL hx hcell hu HV
      have hI1 : (I : Int) < (n' : Int) := by omega
      have q0 := HP4.out.cell0
      have q1 := HP4.out.cell1
      have q2 := HP4.out.cell2
      have q3 := HP4.out.fr 0
      have q4 := HP4.out.fr 1
      have q5 := HP4.out.fr 2
      have HPF := Lib.hid (HP4.out.set (x) (y) (z))
      have HBF := Lib.hid (below_set3 (b := w.heap.size + 1) HB4.out (by omega) (.int .i64 (x)) (.int .i64 (y)) (.int .i64 (z)))
      go_wp2
      generalize ((w4.setCell ⟨w.heap.size + 1, 0, none⟩ (.int .i64 (x))).setCell ⟨w.heap.size + 1, 1, none⟩ (.int .i64 (y))).setCell ⟨w.heap.size + 1, 2, none⟩ (.int .i64 (z)) = wf at *
      have k0 := HPF.out.cell0
      have k1 := HPF.out.cell1
      have k2 := HPF.out.cell2
      exact bodyPost_ret (v := .tuple #[.agg #[.int .i64 (x), .int .i64 (y), .int .i64 (z)], .int .i64 (0)]) (by simp [results, Try.results19, go_sem, k0, k1, k2]) rfl ⟨by rw [HRV.out, HRE.out]; rfl, HBF.out⟩
  · have HRE : Hid (er = k) := Lib.hid (by rw [HE.out, if_neg hk])
    have HRV : Hid (pv = (0, 0, 0)) := Lib.hid (by rw [HV.out, HRE.out, if_neg hk])
    have e1 : (k != 0) = true := by simpa using hk
    have q0 := HP2.out.cell0
    have q1 := HP2.out.cell1
    have q2 := HP2.out.cell2
    have q3 := HP2.out.fr 0
    have q4 := HP2.out.fr 1
    have q5 := HP2.out.fr 2
    have HPF := Lib.hid (HP2.out.set (0) (0) (0))
    have HBF := Lib.hid (below_set3 (b := w.heap.size + 1) HB2.out (by omega) (.int .i64 (0)) (.int .i64 (0)) (.int .i64 (0)))
    go_wp2
    generalize ((w2.setCell ⟨w.heap.size + 1, 0, none⟩ (.int .i64 (0))).setCell ⟨w.heap.size + 1, 1, none⟩ (.int .i64 (0))).setCell ⟨w.heap.size + 1, 2, none⟩ (.int .i64 (0)) = wf at *
    have k0 := HPF.out.cell0
    have k1 := HPF.out.cell1
    have k2 := HPF.out.cell2
    exact bodyPost_ret (v := .tuple #[.agg #[.int .i64 (0), .int .i64 (0), .int .i64 (0)], .int .i64 (k)]) (by simp [results, Try.results19, go_sem, k0, k1, k2]) rfl ⟨by rw [HRV.out, HRE.out]; rfl, HBF.out⟩
end Go.Proofs.Ythchcgpbmkmfnaa
