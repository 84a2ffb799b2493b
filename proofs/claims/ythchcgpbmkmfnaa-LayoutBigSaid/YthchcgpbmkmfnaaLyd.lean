/-
  Contracts of package layout as it landed: Count, Size, Place; all four together. Conditions: at most forty fields.
-/
import Derived.Test.YthchcgpbmkmfnaaLyc
namespace Go.Proofs.Ythchcgpbmkmfnaa
open Go.ChangeShapes Go.WideShapes Go.RowKit
set_option linter.unusedVariables false
set_option maxHeartbeats 8000000
set_option maxRecDepth 100000

theorem chk_ok {n : Int} {l : List (Int × Int)} (h : chk n l = 0) : ckc n l.length = 0 ∧ (∀ f ∈ l, errF f = 0) ∧ szt n l = szc n l ∧ cnt n l = ctc n l.length := by
  have hs : szt n l = szc n l := by unfold szt szc; rw [if_pos h]
  have hc : cnt n l = ctc n l.length := by unfold cnt ctc; rw [if_pos h]
  rw [chk_is] at h
  by_cases h1 : ckc n l.length = 0
  · rw [if_pos h1] at h
    by_cases h2 : fErr l = 0
    · exact ⟨h1, fErr_0 h2, hs, hc⟩
    · rw [if_neg h2] at h; exact absurd h h2
  · rw [if_neg h1] at h; exact absurd h h1
theorem Count_any (n : Int) (A : Option Addr) (m c : Nat) (l : List (Int × Int)) (w : World) (h : Exs w w.heap.size A m c l) (hm : m ≤ 40) :
    Calls Try.prog 15 #[.agg #[.int .i64 n, .slice A m c]] w (Says w (.int .i64 (cnt n l))) := by
  have hb0 : Below w.heap.size w (w.alloc (.cells #[.int .i64 n, .slice A m c] 24)) := (Below.refl _ _).alloc (Nat.le_refl _) _
  have HB0 := Lib.hid hb0
  have HT0 := Lib.hid (TyB.new (w := w) (n := n) (A := A) (m := m) (c := c))
  have HCK := Lib.hid (check_any n A m c l _ (h.go hb0) hm)
  have HCT := Lib.hid (fun W => count_any n A m c W h.cap h.small)
  have HO : Hid (chk n l = 0 → cnt n l = ctc n m) := Lib.hid (fun h0 => by rw [(chk_ok h0).2.2.2, h.len])
  have HN : Hid (chk n l ≠ 0 → cnt n l = 0) := Lib.hid (fun h0 => by unfold cnt; rw [if_neg h0])
  have c0 := HT0.out.cell0
  have c1 := HT0.out.cell1
  generalize chk n l = k at *
  generalize cnt n l = ct at *
  generalize ctc n m = cc at *
  clear h hb0
  go_enter Try.func15, Try.ntmps15
  go_wp2_with fail
  refine HCK.out.mono ?_
  generalize w.alloc (.cells #[.int .i64 n, .slice A m c] 24) = w1 at *
  generalize htb : w.heap.size = tb at *
  rintro e w2 ⟨rfl, hb2⟩
  have HT2 := Lib.hid (HT0.out.go hb2)
  have HB2 := Lib.hid (Below.then HB0.out hb2 (by omega))
  clear hb2 HT0 HB0 c0 c1 HCK
  by_cases hz : k = 0
  · subst hz
    have HV := Lib.hid (HO.out rfl)
    have c0 := HT2.out.cell0
    have c1 := HT2.out.cell1
    go_wp2_with fail
    refine (HCT.out _).mono ?_
    rintro e w3 ⟨rfl, hb3⟩
    have HB3 := Lib.hid (Below.then HB2.out hb3 (by omega))
    clear hb3
    go_wp2
    go_ret
    exact ⟨by rw [HV.out]; rfl, by rw [htb]; exact HB3.out⟩
  · have d1 : (k != 0) = true := by simpa using hz
    have HV := Lib.hid (HN.out hz)
    go_wp2
    go_ret
    exact ⟨by rw [HV.out]; rfl, by rw [htb]; exact HB2.out⟩
theorem Size_any (n : Int) (A : Option Addr) (m c : Nat) (l : List (Int × Int)) (w : World) (h : Exs w w.heap.size A m c l) (hm : m ≤ 40) :
    Calls Try.prog 14 #[.agg #[.int .i64 n, .slice A m c]] w (Says w (.tuple #[.int .i64 (szt n l), .int .i64 (chk n l)])) := by
  have hb0 : Below w.heap.size w (w.alloc (.cells #[.int .i64 n, .slice A m c] 24)) := (Below.refl _ _).alloc (Nat.le_refl _) _
  have HB0 := Lib.hid hb0
  have HX0 := Lib.hid (h.go hb0)
  have HT0 := Lib.hid (TyB.new (w := w) (n := n) (A := A) (m := m) (c := c))
  have HCK := Lib.hid (check_any n A m c l _ (h.go hb0) hm)
  have HSZ : Hid (chk n l = 0 → ∀ W, Exs W W.heap.size A m c l → Calls Try.prog 24 #[.agg #[.int .i64 n, .slice A m c]] W (Says W (.int .i64 (szt n l)))) := Lib.hid (fun h0 W hW => by
    obtain ⟨h1, h2, h3, _⟩ := chk_ok h0
    rw [h3]
    exact size_any n A m c l W hW h2 (by rw [← h.len]; exact h1))
  have HN : Hid (chk n l ≠ 0 → szt n l = 0) := Lib.hid (fun h0 => by unfold szt; rw [if_neg h0])
  have c0 := HT0.out.cell0
  have c1 := HT0.out.cell1
  generalize chk n l = k at *
  generalize szt n l = sz at *
  clear h hb0
  go_enter Try.func14, Try.ntmps14
  go_wp2_with fail
  refine HCK.out.mono ?_
  generalize w.alloc (.cells #[.int .i64 n, .slice A m c] 24) = w1 at *
  generalize htb : w.heap.size = tb at *
  rintro e w2 ⟨rfl, hb2⟩
  have HT2 := Lib.hid (HT0.out.go hb2)
  have HX2 := Lib.hid (HX0.out.go hb2)
  have HB2 := Lib.hid (Below.then HB0.out hb2 (by omega))
  clear hb2 HT0 HB0 c0 c1 HCK
  by_cases hz : k = 0
  · subst hz
    have HS := Lib.hid (HSZ.out rfl w2 HX2.out)
    have c0 := HT2.out.cell0
    have c1 := HT2.out.cell1
    go_wp2_with fail
    refine HS.out.mono ?_
    rintro e w3 ⟨rfl, hb3⟩
    have HB3 := Lib.hid (Below.then HB2.out hb3 (by omega))
    clear hb3
    go_wp2
    go_ret2
    exact ⟨rfl, by rw [htb]; exact HB3.out⟩
  · have d1 : (k != 0) = true := by simpa using hz
    have HV := Lib.hid (HN.out hz)
    go_wp2
    go_ret2
    exact ⟨by rw [HV.out]; rfl, by rw [htb]; exact HB2.out⟩
theorem Place_any (n i : Int) (A : Option Addr) (m c : Nat) (l : List (Int × Int)) (w : World) (h : Exs w w.heap.size A m c l) (hm : m ≤ 40) :
    Calls Try.prog 16 #[.agg #[.int .i64 n, .slice A m c], .int .i64 i] w (Says w (.tuple #[plv (plV n l i), .int .i64 (plE n l i)])) := by
  have hb0 : Below w.heap.size w (w.alloc (.cells #[.int .i64 n, .slice A m c] 24)) := (Below.refl _ _).alloc (Nat.le_refl _) _
  have hs0 : (w.alloc (.cells #[.int .i64 n, .slice A m c] 24)).heap.size = w.heap.size + 1 := by simp
  have hb1 : Below (w.alloc (.cells #[.int .i64 n, .slice A m c] 24)).heap.size (w.alloc (.cells #[.int .i64 n, .slice A m c] 24)) ((w.alloc (.cells #[.int .i64 n, .slice A m c] 24)).alloc (.cells #[.int .i64 0, .int .i64 0, .int .i64 0] 44)) := (Below.refl _ _).alloc (Nat.le_refl _) _
  have HT0 := Lib.hid ((TyB.new (w := w) (n := n) (A := A) (m := m) (c := c)).go hb1)
  have hp := PlB.new (w := w.alloc (.cells #[.int .i64 n, .slice A m c] 24)) (x := 0) (y := 0) (z := 0)
  rw [hs0] at hp
  have HP0 := Lib.hid hp
  have HX0 := Lib.hid ((h.go hb0).go hb1)
  have HB0 := Lib.hid (Below.then hb0 hb1 (Nat.le_refl _))
  have HCK := Lib.hid (check_any n A m c l _ ((h.go hb0).go hb1) hm)
  have HCT := Lib.hid (fun W => count_any n A m c W h.cap h.small)
  have HE1 : Hid (chk n l ≠ 0 → plE n l i = chk n l ∧ plV n l i = (0, 0, 0)) := Lib.hid (fun h0 => by
    have e : plE n l i = chk n l := by unfold plE; rw [if_neg h0]
    exact ⟨e, by unfold plV; rw [e, if_neg h0]⟩)
  have HE2 : Hid (chk n l = 0 → (i < 0 ∨ ctc n m ≤ i) → plE n l i = 6 ∧ plV n l i = (0, 0, 0)) := Lib.hid (fun h0 hi => by
    have e : plE n l i = 6 := by unfold plE; rw [if_pos h0, (chk_ok h0).2.2.2, h.len, if_pos hi]
    exact ⟨e, by unfold plV; rw [e]; rfl⟩)
  have HE3 : Hid (chk n l = 0 → ¬ i < 0 → ¬ ctc n m ≤ i → plE n l i = 0 ∧ ∀ W, Exs W W.heap.size A m c l → Calls Try.prog 26 #[.agg #[.int .i64 n, .slice A m c], .int .i64 i] W (Says W (plv (plV n l i)))) := Lib.hid (fun h0 hi hi2 => by
    have e : plE n l i = 0 := by unfold plE; rw [if_pos h0, (chk_ok h0).2.2.2, h.len, if_neg (by omega)]
    refine ⟨e, fun W hW => ?_⟩
    obtain ⟨g1, g2, _, _⟩ := chk_ok h0
    rw [h.len] at g1
    obtain ⟨I, rfl⟩ := Int.eq_ofNat_of_zero_le (by omega : 0 ≤ i)
    obtain ⟨k0, k1, k2, k3⟩ := ckc_0 g1
    unfold plV
    rw [if_pos e]
    unfold ctc at hi2
    rcases k3 with ⟨k3, rfl⟩ | ⟨rfl, k3⟩
    · rw [if_pos k3] at hi2 ⊢
      exact place_arr n I A c l W hW g2 k3 k1 (by omega)
    · rw [if_neg (by omega)] at hi2 ⊢
      exact place_rec I A m c l W hW hm g2 (by omega))
  have c0 := HT0.out.cell0
  have c1 := HT0.out.cell1
  generalize chk n l = k at *
  generalize ctc n m = ct at *
  generalize plE n l i = er at *
  generalize plV n l i = pv at *
  clear h hb0 hb1 hp hs0
  go_enter Try.func16, Try.ntmps16
  go_wp2_with fail
  refine HCK.out.mono ?_
  generalize (w.alloc (.cells #[.int .i64 n, .slice A m c] 24)).alloc (.cells #[.int .i64 0, .int .i64 0, .int .i64 0] 44) = w1 at *
  generalize htb : w.heap.size = tb at *
  rintro e w2 ⟨rfl, hb2⟩
  have HT2 := Lib.hid (HT0.out.go hb2)
  have HP2 := Lib.hid (HP0.out.go hb2)
  have HX2 := Lib.hid (HX0.out.go hb2)
  have HB2 := Lib.hid (Below.then HB0.out hb2 (by omega))
  clear hb2 HT0 HB0 HP0 HX0 c0 c1 HCK
  by_cases hz : k = 0
  · subst hz
    have c0 := HT2.out.cell0
    have c1 := HT2.out.cell1
    by_cases hi0 : i < 0
    · have d2 : decide (i < 0) = true := decide_eq_true hi0
      obtain ⟨r1, r2⟩ := HE2.out (by first | rfl | trivial) (.inl hi0)
      subst r1 r2
      have q0 := HP2.out.cell0
      have q1 := HP2.out.cell1
      have q2 := HP2.out.cell2
      have q3 := HP2.out.fr 0
      have q4 := HP2.out.fr 1
      have q5 := HP2.out.fr 2
      have HPF := Lib.hid (HP2.out.set 0 0 0)
      have HBF := Lib.hid (below_set3 (b := tb + 1) HB2.out (by omega) (.int .i64 0) (.int .i64 0) (.int .i64 0))
      go_wp2
      generalize ((w2.setCell ⟨tb + 1, 0, none⟩ (.int .i64 0)).setCell ⟨tb + 1, 1, none⟩ (.int .i64 0)).setCell ⟨tb + 1, 2, none⟩ (.int .i64 0) = wf at *
      have k0 := HPF.out.cell0
      have k1 := HPF.out.cell1
      have k2 := HPF.out.cell2
      exact bodyPost_ret (v := .tuple #[.agg #[.int .i64 0, .int .i64 0, .int .i64 0], .int .i64 6]) (by simp [results, Try.results16, go_sem, k0, k1, k2]) rfl ⟨rfl, by rw [htb]; exact HBF.out⟩
    have d2 : decide (i < 0) = false := decide_eq_false hi0
    go_wp2_with fail
    refine (HCT.out _).mono ?_
    rintro e w3 ⟨rfl, hb3⟩
    have HT3 := Lib.hid (HT2.out.go hb3)
    have HP3 := Lib.hid (HP2.out.go hb3)
    have HX3 := Lib.hid (HX2.out.go hb3)
    have HB3 := Lib.hid (Below.then HB2.out hb3 (by omega))
    clear hb3 c0 c1
    by_cases hi1 : ct ≤ i
    · have d3 : decide (ct ≤ i) = true := decide_eq_true hi1
      obtain ⟨r1, r2⟩ := HE2.out (by first | rfl | trivial) (.inr hi1)
      subst r1 r2
      have q0 := HP3.out.cell0
      have q1 := HP3.out.cell1
      have q2 := HP3.out.cell2
      have q3 := HP3.out.fr 0
      have q4 := HP3.out.fr 1
      have q5 := HP3.out.fr 2
      have HPF := Lib.hid (HP3.out.set 0 0 0)
      have HBF := Lib.hid (below_set3 (b := tb + 1) HB3.out (by omega) (.int .i64 0) (.int .i64 0) (.int .i64 0))
      go_wp2
      generalize ((w3.setCell ⟨tb + 1, 0, none⟩ (.int .i64 0)).setCell ⟨tb + 1, 1, none⟩ (.int .i64 0)).setCell ⟨tb + 1, 2, none⟩ (.int .i64 0) = wf at *
      have k0 := HPF.out.cell0
      have k1 := HPF.out.cell1
      have k2 := HPF.out.cell2
      exact bodyPost_ret (v := .tuple #[.agg #[.int .i64 0, .int .i64 0, .int .i64 0], .int .i64 6]) (by simp [results, Try.results16, go_sem, k0, k1, k2]) rfl ⟨rfl, by rw [htb]; exact HBF.out⟩
    have d3 : decide (ct ≤ i) = false := decide_eq_false hi1
    obtain ⟨r1, r2⟩ := HE3.out (by first | rfl | trivial) hi0 (by omega)
    subst r1
    have HPL := Lib.hid (r2 w3 HX3.out)
    obtain ⟨x, y, z⟩ := pv
    unfold plv at HPL
    simp only at HPL
    have c0 := HT3.out.cell0
    have c1 := HT3.out.cell1
    clear r2
    go_wp2_with fail
    refine HPL.out.mono ?_
    rintro e w4 ⟨rfl, hb4⟩
    have HP4 := Lib.hid (HP3.out.go hb4)
    have HB4 := Lib.hid (Below.then HB3.out hb4 (by omega))
    have q0 := HP4.out.cell0
    have q1 := HP4.out.cell1
    have q2 := HP4.out.cell2
    have q3 := HP4.out.fr 0
    have q4 := HP4.out.fr 1
    have q5 := HP4.out.fr 2
    have HPF := Lib.hid (HP4.out.set x y z)
    have HBF := Lib.hid (below_set3 (b := tb + 1) HB4.out (by omega) (.int .i64 x) (.int .i64 y) (.int .i64 z))
    clear hb4
    go_wp2
    generalize ((w4.setCell ⟨tb + 1, 0, none⟩ (.int .i64 x)).setCell ⟨tb + 1, 1, none⟩ (.int .i64 y)).setCell ⟨tb + 1, 2, none⟩ (.int .i64 z) = wf at *
    have k0 := HPF.out.cell0
    have k1 := HPF.out.cell1
    have k2 := HPF.out.cell2
    exact bodyPost_ret (v := .tuple #[.agg #[.int .i64 x, .int .i64 y, .int .i64 z], .int .i64 0]) (by simp [results, Try.results16, go_sem, k0, k1, k2]) rfl ⟨rfl, by rw [htb]; exact HBF.out⟩
  · have d1 : (k != 0) = true := by simpa using hz
    obtain ⟨r1, r2⟩ := HE1.out hz
    subst r1 r2
    have q0 := HP2.out.cell0
    have q1 := HP2.out.cell1
    have q2 := HP2.out.cell2
    have q3 := HP2.out.fr 0
    have q4 := HP2.out.fr 1
    have q5 := HP2.out.fr 2
    have HPF := Lib.hid (HP2.out.set 0 0 0)
    have HBF := Lib.hid (below_set3 (b := tb + 1) HB2.out (by omega) (.int .i64 0) (.int .i64 0) (.int .i64 0))
    go_wp2
    generalize ((w2.setCell ⟨tb + 1, 0, none⟩ (.int .i64 0)).setCell ⟨tb + 1, 1, none⟩ (.int .i64 0)).setCell ⟨tb + 1, 2, none⟩ (.int .i64 0) = wf at *
    have k0 := HPF.out.cell0
    have k1 := HPF.out.cell1
    have k2 := HPF.out.cell2
    exact bodyPost_ret (v := .tuple #[.agg #[.int .i64 0, .int .i64 0, .int .i64 0], .int .i64 _]) (by simp [results, Try.results16, go_sem, k0, k1, k2]) rfl ⟨rfl, by rw [htb]; exact HBF.out⟩
theorem lc : Lc where
  ck := check_any
  ct := Count_any
  sz := Size_any
  pl := Place_any
end Go.Proofs.Ythchcgpbmkmfnaa
