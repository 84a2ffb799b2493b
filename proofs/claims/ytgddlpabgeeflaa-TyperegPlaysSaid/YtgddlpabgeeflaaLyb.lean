/-
  Contracts of package layout as it landed: places and sizes. Conditions: at most forty fields, no errors.
-/
import Derived.Test.YtgddlpabgeeflaaLya
namespace Go.Proofs.Ytgddlpabgeeflaa
open Go.ChangeShapes Go.WideShapes Go.RowKit
set_option linter.unusedVariables false
set_option maxHeartbeats 8000000
set_option maxRecDepth 100000

theorem PlB.other {w : World} {b d o : Nat} {x y z : Int} {v : Value} (h : PlB w b x y z) (hd : b ≠ d) : PlB (w.setCell ⟨d, o, none⟩ v) b x y z := (heap_setCell_other w ⟨d, o, none⟩ b v hd).trans h
theorem PlB.others {w : World} {b d : Nat} {x y z : Int} {u0 u1 u2 : Value} (h : PlB w b x y z) (hd : b ≠ d) : PlB (((w.setCell ⟨d, 0, none⟩ u0).setCell ⟨d, 1, none⟩ u1).setCell ⟨d, 2, none⟩ u2) b x y z := ((h.other hd).other hd).other hd
theorem place_rec (I : Nat) (A : Option Addr) (m c : Nat) (l : List (Int × Int)) (w : World) (h : Exs w w.heap.size A m c l) (hm : m ≤ 40) (hok : ∀ f ∈ l, errF f = 0) (hI : I < m) :
    Calls Try.prog 37 #[.agg #[.int .i64 0, .slice A m c], .int .i64 I] w (Says w (plv ((plc l 0).getD I (0, 0, 0)))) := by
  have hb0 : Below w.heap.size w (w.alloc (.cells #[.int .i64 0, .slice A m c] 35)) := (Below.refl _ _).alloc (Nat.le_refl _) _
  have hs0 : (w.alloc (.cells #[.int .i64 0, .slice A m c] 35)).heap.size = w.heap.size + 1 := by simp
  have hb1 : Below (w.alloc (.cells #[.int .i64 0, .slice A m c] 35)).heap.size (w.alloc (.cells #[.int .i64 0, .slice A m c] 35)) ((w.alloc (.cells #[.int .i64 0, .slice A m c] 35)).alloc (.cells #[.int .i64 0, .int .i64 0, .int .i64 0] 81)) := (Below.refl _ _).alloc (Nat.le_refl _) _
  have hs1 : ((w.alloc (.cells #[.int .i64 0, .slice A m c] 35)).alloc (.cells #[.int .i64 0, .int .i64 0, .int .i64 0] 81)).heap.size = w.heap.size + 2 := by simp
  have HT0 := Lib.hid ((TyB.new (w := w) (n := 0) (A := A) (m := m) (c := c)).go hb1)
  have hp := PlB.new (w := w.alloc (.cells #[.int .i64 0, .slice A m c] 35)) (x := 0) (y := 0) (z := 0)
  rw [hs0] at hp
  have HP0 := Lib.hid hp
  have HX0 := Lib.hid h
  have hb2 := ((Below.refl ((w.alloc (.cells #[.int .i64 0, .slice A m c] 35)).alloc (.cells #[.int .i64 0, .int .i64 0, .int .i64 0] 81)).heap.size _).alloc (Nat.le_refl _) (.cells #[.int .i64 0, .int .i64 0, .int .i64 0] 81))
  have hq := PlB.new (w := (w.alloc (.cells #[.int .i64 0, .slice A m c] 35)).alloc (.cells #[.int .i64 0, .int .i64 0, .int .i64 0] 81)) (x := 0) (y := 0) (z := 0)
  rw [hs1] at hq
  have HQ0 := Lib.hid hq
  have HR0 := Lib.hid (hp.go hb2)
  have HB0 := Lib.hid (Below.then (Below.then hb0 hb1 (Nat.le_refl _)) hb2 (Nat.le_refl _))
  have hcap := h.cap
  have hsm := h.small
  have HLN := Lib.hid h.len
  unfold maxLen at hsm
  have HOK := Lib.hid hok
  have c1 := HT0.out.cell1
  have c0 := HT0.out.cell0
  clear h hb0 hok hb1 hp hq hb2 HP0
  go_enter Try.func37, Try.ntmps37
  go_wp2_with fail
  generalize ((w.alloc (.cells #[.int .i64 0, .slice A m c] 35)).alloc (.cells #[.int .i64 0, .int .i64 0, .int .i64 0] 81)).alloc (.cells #[.int .i64 0, .int .i64 0, .int .i64 0] 81) = w3 at *
  clear c0 c1 HT0 hs0 hs1
  generalize htb : w.heap.size = tb at *
  go_loopw [32] (fun iv wq => ∃ (j : Nat) (x y z : Int), j ≤ I + 1 ∧ iv = .int .i64 j ∧ 0 ≤ x + y ∧ x + y ≤ 65544 * j ∧ 0 ≤ x ∧ 0 ≤ y ∧ Hid (x + y = fin_ (l.take j) 0 ∧ (0 < j → (plc l 0)[j - 1]? = some (x, y, z)) ∧ PlB wq (tb + 2) x y z ∧ PlB wq (tb + 1) 0 0 0 ∧ Below tb w wq)) (fun iv _ => I + 1 - (intOf iv).toNat)
  case atStart => exact ⟨0, 0, 0, 0, by omega, rfl, by omega, by omega, by omega, by omega, Lib.hid ⟨rfl, fun h => absurd h (by omega), HQ0.out, HR0.out, HB0.out⟩⟩
  case round =>
    obtain ⟨j, x, y, z, hj, rfl, s0, s1, x0, y0, hh⟩ := hrel
    have HS := Lib.hid hh.out.1
    have HL := Lib.hid hh.out.2.1
    have HQ := Lib.hid hh.out.2.2.1
    have HR := Lib.hid hh.out.2.2.2.1
    have HB := Lib.hid hh.out.2.2.2.2
    clear hh
    by_cases hjm : j < I + 1
    · have hj1 : (j : Int) < (I : Int) + 1 := by omega
      obtain ⟨b, o, u, v, hu, rfl, hb, g0, g1, _⟩ := (HX0.out.below HB.out).at_ (k := j) (by omega)
      have he := HOK.out _ (List.mem_of_getElem? hu)
      obtain ⟨u0, u1, _⟩ := errF_0 he
      obtain ⟨d0, d1⟩ := wdt_bd he
      have ha := aln_is (u, v)
      have HA : Hid (∀ W, Calls Try.prog 36 #[.int .i64 u] W (Says W (.int .i64 (aln (u, v))))) := Lib.hid (fun W => by rw [← alg_aln ⟨u0, u1⟩]; exact Calls.says (alignment_any u W))
      have HW := Lib.hid (fun W => width_any u v W ⟨u0, u1⟩)
      have HU := Lib.hid (fun W => Calls.says (roundUp_any (x + y) (aln (u, v)) W ⟨by omega, by omega⟩ ⟨by omega, by omega⟩))
      have hup := upk_is (n := x + y) (k := aln (u, v)) (by omega)
      have HFN := Lib.hid (fin_next hu 0)
      have HPN := Lib.hid (plc_at hu 0)
      rw [← HS.out] at HFN HPN
      generalize aln (u, v) = al at *
      generalize wdt (u, v) = wd at *
      generalize upk (x + y) al = up' at *
      have hn4 := FfB.new (w := wr) (u := u) (v := v)
      have hb4 := (Below.refl wr.heap.size wr).alloc (Nat.le_refl _) (.cells #[.int .i64 u, .int .i64 v] 45)
      have HF4 := Lib.hid hn4
      have HQ4 := Lib.hid (HQ.out.go hb4)
      have HR4 := Lib.hid (HR.out.go hb4)
      have HB4 := Lib.hid (Below.then HB.out hb4 (by have := HB.out.size; omega))
      clear hu hb he hn4 hb4 HQ HR
      go_wp2
      generalize wr.alloc (.cells #[.int .i64 u, .int .i64 v] 45) = w4 at *
      generalize wr.heap.size = fb at *
      have a0 : ∀ m : Later w4, m.val.cell? ⟨fb, 0, none⟩ = some (.int .i64 u) := fun m => later_old m HF4.out.cell0
      have a1 : ∀ m : Later w4, m.val.cell? ⟨fb, 1, none⟩ = some (.int .i64 v) := fun m => later_old m HF4.out.cell1
      have b0 : ∀ m : Later w4, m.val.cell? ⟨tb + 2, 0, none⟩ = some (.int .i64 x) := fun m => later_old m HQ4.out.cell0
      have b1 : ∀ m : Later w4, m.val.cell? ⟨tb + 2, 1, none⟩ = some (.int .i64 y) := fun m => later_old m HQ4.out.cell1
      refine wp_region_later_tail 14 (by kernel_rfl) (by kernel_rfl) ?_
      simp only [List.take_succ_cons, List.take_zero, List.drop_succ_cons, List.drop_zero]
      repeat (go_big_quiet_step (first
        | (go_at_call 36; exact Calls.later (HA.out _))
        | (go_at_call 39; exact Calls.later (HU.out _))
        | (go_at_call 41; exact Calls.later (HW.out _))))
      refine wpQuiet_nil ?_
      rintro w7 ⟨⟨_, hq⟩, rfl⟩
      have HQ7 := Lib.hid (HQ4.out.go hq)
      have HR7 := Lib.hid (HR4.out.go hq)
      have HB7 := Lib.hid (Below.then HB4.out hq (by have := HB4.out.size; omega))
      clear hq a0 a1 b0 b1 HQ4 HR4 HB4 HF4
      have q0 := HQ7.out.cell0
      have q1 := HQ7.out.cell1
      have q2 := HQ7.out.cell2
      have q3 := HQ7.out.fr 0
      have q4 := HQ7.out.fr 1
      have q5 := HQ7.out.fr 2
      have HQ8 := Lib.hid (HQ7.out.set up' wd u)
      have HR8 := Lib.hid (HR7.out.others (d := tb + 2) (u0 := .int .i64 up') (u1 := .int .i64 wd) (u2 := .int .i64 u) (by omega))
      have HB8 := Lib.hid (below_set3 (b := tb + 2) HB7.out (by omega) (.int .i64 up') (.int .i64 wd) (.int .i64 u))
      go_wp2
      go_roundw
      case rel => exact ⟨j + 1, up', wd, u, by omega, by go_num, by omega, by omega, by omega, by omega, Lib.hid ⟨HFN.out.symm, fun _ => HPN.out, HQ8.out, HR8.out, HB8.out⟩⟩
      case measure => simp [intOf]; omega
    · obtain rfl : j = I + 1 := by omega
      have hjj : ¬ ((I + 1 : Nat) : Int) < (I : Int) + 1 := by omega
      have HV : Hid ((plc l 0)[I]?.getD (0, 0, 0) = (x, y, z)) := Lib.hid (by rw [show I = I + 1 - 1 from rfl, HL.out (by omega)]; rfl)
      have q0 := HQ.out.cell0
      have q1 := HQ.out.cell1
      have q2 := HQ.out.cell2
      have p0 := HR.out.cell0
      have p1 := HR.out.cell1
      have p2 := HR.out.cell2
      have p3 := HR.out.fr 0
      have p4 := HR.out.fr 1
      have p5 := HR.out.fr 2
      have HPF := Lib.hid (HR.out.set x y z)
      have HBF := Lib.hid (below_set3 (b := tb + 1) HB.out (by omega) (.int .i64 x) (.int .i64 y) (.int .i64 z))
      go_wp2
      generalize ((wr.setCell ⟨tb + 1, 0, none⟩ (.int .i64 x)).setCell ⟨tb + 1, 1, none⟩ (.int .i64 y)).setCell ⟨tb + 1, 2, none⟩ (.int .i64 z) = wf at *
      have k0 := HPF.out.cell0
      have k1 := HPF.out.cell1
      have k2 := HPF.out.cell2
      exact bodyPost_ret (v := .agg #[.int .i64 x, .int .i64 y, .int .i64 z]) (by simp [results, Try.results37, go_sem, k0, k1, k2]) rfl ⟨by rw [HV.out]; rfl, by rw [htb]; exact HBF.out⟩
theorem place_arr (n : Int) (I : Nat) (A : Option Addr) (c : Nat) (l : List (Int × Int)) (w : World) (h : Exs w w.heap.size A 1 c l) (hok : ∀ f ∈ l, errF f = 0) (h0 : 0 < n) (h1 : n ≤ 65536) (hI : (I : Int) < n) :
    Calls Try.prog 37 #[.agg #[.int .i64 n, .slice A 1 c], .int .i64 I] w (Says w (plv (I * wdt (l.getD 0 (0, 0)), wdt (l.getD 0 (0, 0)), (l.getD 0 (0, 0)).1))) := by
  obtain ⟨b, o, u, v, hu, rfl, hb, g0', g1', _⟩ := h.at_ (k := 0) (by omega)
  have hget : l.getD 0 (0, 0) = (u, v) := by rw [List.getD_eq_getElem?_getD, hu]; rfl
  have he := hok _ (List.mem_of_getElem? hu)
  obtain ⟨u0, u1, _⟩ := errF_0 he
  obtain ⟨d0, d1⟩ := wdt_bd he
  rw [hget]
  dsimp only
  have HW := Lib.hid (fun W => width_any u v W ⟨u0, u1⟩)
  have hmul0 : 0 ≤ (I : Int) * wdt (u, v) := Int.mul_nonneg (by omega) (by omega)
  have hmul : (I : Int) * wdt (u, v) ≤ 65536 * 65536 := Int.mul_le_mul (by omega) d1 (by omega) (by omega)
  generalize wdt (u, v) = wd at *
  obtain ⟨iw, hiw⟩ : ∃ iw, (I : Int) * wd = iw := ⟨_, rfl⟩
  rw [hiw] at hmul hmul0
  have HIW := Lib.hid hiw
  have hb0 : Below w.heap.size w (w.alloc (.cells #[.int .i64 n, .slice (some ⟨b, o, none⟩) 1 c] 35)) := (Below.refl _ _).alloc (Nat.le_refl _) _
  have hs0 : (w.alloc (.cells #[.int .i64 n, .slice (some ⟨b, o, none⟩) 1 c] 35)).heap.size = w.heap.size + 1 := by simp
  have hb1 : Below (w.alloc (.cells #[.int .i64 n, .slice (some ⟨b, o, none⟩) 1 c] 35)).heap.size (w.alloc (.cells #[.int .i64 n, .slice (some ⟨b, o, none⟩) 1 c] 35)) ((w.alloc (.cells #[.int .i64 n, .slice (some ⟨b, o, none⟩) 1 c] 35)).alloc (.cells #[.int .i64 0, .int .i64 0, .int .i64 0] 81)) := (Below.refl _ _).alloc (Nat.le_refl _) _
  have hs1 : ((w.alloc (.cells #[.int .i64 n, .slice (some ⟨b, o, none⟩) 1 c] 35)).alloc (.cells #[.int .i64 0, .int .i64 0, .int .i64 0] 81)).heap.size = w.heap.size + 2 := by simp
  have hp := PlB.new (w := w.alloc (.cells #[.int .i64 n, .slice (some ⟨b, o, none⟩) 1 c] 35)) (x := 0) (y := 0) (z := 0)
  rw [hs0] at hp
  have hb2 := ((Below.refl ((w.alloc (.cells #[.int .i64 n, .slice (some ⟨b, o, none⟩) 1 c] 35)).alloc (.cells #[.int .i64 0, .int .i64 0, .int .i64 0] 81)).heap.size _).alloc (Nat.le_refl _) (.cells #[.int .i64 u, .int .i64 v] 45))
  have hq := FfB.new (w := (w.alloc (.cells #[.int .i64 n, .slice (some ⟨b, o, none⟩) 1 c] 35)).alloc (.cells #[.int .i64 0, .int .i64 0, .int .i64 0] 81)) (u := u) (v := v)
  rw [hs1] at hq
  have HF0 := Lib.hid hq
  have HR0 := Lib.hid (hp.go hb2)
  have HB0 := Lib.hid (Below.then (Below.then hb0 hb1 (Nat.le_refl _)) hb2 (Nat.le_refl _))
  have hcap := h.cap
  have hsm := h.small
  unfold maxLen at hsm
  have g0 := (((h.below hb0).below (hb1.mono (by omega)))).at_ (k := 0) (by omega)
  obtain ⟨b', o', u', v', hu', e', _, g0, g1, _⟩ := g0
  cases e'
  rw [hu] at hu'
  cases hu'
  simp only [Nat.zero_mul, Nat.add_zero] at g0 g1
  clear h hb0 hok hb1 hp hq hb2 he hb g0' g1' hu hget
  go_enter Try.func37, Try.ntmps37
  go_wp2
  generalize ((w.alloc (.cells #[.int .i64 n, .slice (some ⟨b, o, none⟩) 1 c] 35)).alloc (.cells #[.int .i64 0, .int .i64 0, .int .i64 0] 81)).alloc (.cells #[.int .i64 u, .int .i64 v] 45) = w4 at *
  clear hs0 hs1
  generalize htb : w.heap.size = tb at *
  have a0 : ∀ m : Later w4, m.val.cell? ⟨tb + 2, 0, none⟩ = some (.int .i64 u) := fun m => later_old m HF0.out.cell0
  have a1 : ∀ m : Later w4, m.val.cell? ⟨tb + 2, 1, none⟩ = some (.int .i64 v) := fun m => later_old m HF0.out.cell1
  refine wp_region_later_tail 9 (by kernel_rfl) (by kernel_rfl) ?_
  simp only [List.take_succ_cons, List.take_zero, List.drop_succ_cons, List.drop_zero]
  repeat (go_big_quiet_step (first
    | (go_at_call 41; exact Calls.later (HW.out _))))
  refine wpQuiet_nil ?_
  rintro w7 ⟨⟨_, hq⟩, rfl⟩
  have HR7 := Lib.hid (HR0.out.go hq)
  have HB7 := Lib.hid (Below.then HB0.out hq (by have := HB0.out.size; omega))
  clear hq a0 a1 HR0 HB0 HF0
  have p3 := HR7.out.fr 0
  have p4 := HR7.out.fr 1
  have p5 := HR7.out.fr 2
  have p0 := HR7.out.cell0
  have p1 := HR7.out.cell1
  have p2 := HR7.out.cell2
  have HPF := Lib.hid (HR7.out.set iw wd u)
  have HBF := Lib.hid (below_set3 (b := tb + 1) HB7.out (by omega) (.int .i64 iw) (.int .i64 wd) (.int .i64 u))
  go_wp2
  generalize ((w7.setCell ⟨tb + 1, 0, none⟩ (.int .i64 iw)).setCell ⟨tb + 1, 1, none⟩ (.int .i64 wd)).setCell ⟨tb + 1, 2, none⟩ (.int .i64 u) = wf at *
  have k0 := HPF.out.cell0
  have k1 := HPF.out.cell1
  have k2 := HPF.out.cell2
  exact bodyPost_ret (v := .agg #[.int .i64 iw, .int .i64 wd, .int .i64 u]) (by simp [results, Try.results37, go_sem, k0, k1, k2]) rfl ⟨by rw [HIW.out]; rfl, by rw [htb]; exact HBF.out⟩
end Go.Proofs.Ytgddlpabgeeflaa
