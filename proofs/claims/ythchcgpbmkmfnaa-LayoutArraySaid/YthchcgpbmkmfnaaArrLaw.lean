/-
  The law LayoutArray as a walk. No conditions.
-/
import Derived.Test.YthchcgpbmkmfnaaMde
import Derived.Test.YthchcgpbmkmfnaaAwk
namespace Go.Proofs.Ythchcgpbmkmfnaa
open Go.ChangeShapes Go.WideShapes Go.RowKit
set_option linter.unusedVariables false
set_option maxHeartbeats 8000000
set_option maxRecDepth 100000

/-- A type with one field, made anew. -/
theorem made1 (w : World) (s : Nat) (hs : w.heap.size = s) (n u v : Int) (hf : (-9223372036854775808 ≤ u ∧ u ≤ 9223372036854775807) ∧ (-9223372036854775808 ≤ v ∧ v ≤ 9223372036854775807)) (w' : World)
    (hw : (w.alloc (.cells #[.int .i64 u, .int .i64 v] 36)).alloc (.cells #[.int .i64 n, .slice (some ⟨s, 0, none⟩) 1 1] 24) = w') :
    Below w.heap.size w w' ∧ w'.heap.size = s + 1 + 1 ∧ TyB w' (s + 1) n (some ⟨s, 0, none⟩) 1 1 ∧ Exs w' w'.heap.size (some ⟨s, 0, none⟩) 1 1 [(u, v)] := by
  subst hs
  have hx := Exs.new w [(u, v)] #[.int .i64 u, .int .i64 v] 36 1 rfl rfl (by unfold maxLen; omega) (fun x hx => by simp at hx; subst hx; exact hf)
  have hz : (w.alloc (.cells #[.int .i64 u, .int .i64 v] 36)).heap.size = w.heap.size + 1 := by simp
  rw [← hz] at hx
  have hb0 := (Below.refl w.heap.size w).alloc (Nat.le_refl _) (.cells #[.int .i64 u, .int .i64 v] 36)
  have hb1 := (Below.refl (w.alloc (.cells #[.int .i64 u, .int .i64 v] 36)).heap.size (w.alloc (.cells #[.int .i64 u, .int .i64 v] 36))).alloc (Nat.le_refl _) (.cells #[.int .i64 n, .slice (some ⟨w.heap.size, 0, none⟩) 1 1] 24)
  have ht := TyB.new (w := w.alloc (.cells #[.int .i64 u, .int .i64 v] 36)) (n := n) (A := some ⟨w.heap.size, 0, none⟩) (m := 1) (c := 1)
  rw [hz] at ht
  rw [hw] at ht hb1
  refine ⟨Below.then hb0 hb1 (Nat.le_refl _), by rw [← hw]; simp, ht, hx.go hb1⟩
theorem arr_facts {N : Int} {f : Int × Int} (hf : errF f = 0 ∧ f.2 ≤ 9) (h0 : 0 < N) (h1 : N ≤ 256) :
    chk N [f] = 0 ∧ szt N [f] = wdt f * N ∧ cnt N [f] = N ∧ (∀ i : Int, N ≤ i → plE N [f] i = 6 ∧ plV N [f] i = (0, 0, 0)) ∧ ∀ i : Int, 0 ≤ i → i < N → plE N [f] i = 0 ∧ plV N [f] i = (i * wdt f, wdt f, f.1) := by
  have hw := wdt_small hf
  have hs : szc N [f] = wdt f * N := by unfold szc; rw [if_pos h0]; rfl
  have hwn : wdt f * N ≤ 9 * 256 := Int.mul_le_mul hw.2 h1 (by omega) (by omega)
  have hc : chk N [f] = 0 := by
    rw [chk_is, if_pos (by unfold ckc; rw [if_neg (by omega), if_neg (by omega), if_neg (by simp <;> omega), if_neg (by simp)]), if_pos (fErr_all (fun g hg => by simp at hg; subst hg; exact hf.1)), hs, if_neg (by omega)]
  obtain ⟨_, _, e1, e2⟩ := chk_ok hc
  have ec : ctc N [f].length = N := if_pos h0
  refine ⟨hc, by rw [e1, hs], by rw [e2, ec], fun i hi => ?_, fun i hi hi2 => ?_⟩
  · have hpe : plE N [f] i = 6 := by unfold plE; rw [if_pos hc, e2, ec, if_pos (by omega)]
    exact ⟨hpe, by unfold plV; rw [hpe]; rfl⟩
  · have hpe : plE N [f] i = 0 := by unfold plE; rw [if_pos hc, e2, ec, if_neg (by omega)]
    refine ⟨hpe, ?_⟩
    unfold plV
    rw [if_pos hpe, if_pos h0]
    rfl
theorem layoutArray_walk (a0 : Option Addr) (len0 cap0 : Nat) (z0 : List Int) (a1 a2 : Int) (w : World) (w0 : IsRow .u16 w a0 len0 cap0 z0) (w1 : (Lit.int .u8 a1).wf = true) (w2 : (Lit.int .u8 a2).wf = true) :
    Calls Try.prog 8 #[.slice a0 len0 cap0, .int .u8 a1, .int .u8 a2] w fun e w' => e = .returned (.bool true) ∧ Below w.heap.size w w' := by
  obtain ⟨hrow, hfit⟩ := w0.row
  generalize z0.take len0 = L at *
  have HOF := Lib.hid (of_any a0 len0 cap0 L 4 w hrow (by omega))
  have HFT := Lib.hid (hfit.take 4)
  generalize L.take 4 = T at *
  have hfo := fldV_ok (L := T) 0
  have HTY := Lib.hid (fun b W (hW : TS W b T 0) => field_any b 0 T W hW HFT.out (by omega))
  obtain ⟨⟨u, v⟩, htv⟩ : ∃ p, fldV T 0 = p := ⟨_, rfl⟩
  rw [htv] at HTY hfo
  simp only at HTY
  have b1 := Go.bounds_u8 w1
  have b2 := Go.bounds_u8 w2
  obtain ⟨k1, k2, k3, k4, k5⟩ := arr_facts (N := 1) hfo (by omega) (by omega)
  obtain ⟨j1, j2, j3, j4, j5⟩ := arr_facts (N := 1 + a1) hfo (by omega) (by omega)
  rw [Int.mul_one] at k2
  obtain ⟨u0, u1, hff⟩ := errF_0 hfo.1
  have hv9 : v ≤ 9 := hfo.2
  simp only at u0 u1 hff
  obtain ⟨d0, d1⟩ := wdt_small hfo
  have HSZ := Lib.hid (fun A m c W (h : Exs W W.heap.size A m c [(u, v)]) (hm : m ≤ 40) => lc.sz 1 A m c [(u, v)] W h hm)
  have HSZ2 := Lib.hid (fun A m c W (h : Exs W W.heap.size A m c [(u, v)]) (hm : m ≤ 40) => lc.sz (1 + a1) A m c [(u, v)] W h hm)
  have HCT := Lib.hid (fun A m c W (h : Exs W W.heap.size A m c [(u, v)]) (hm : m ≤ 40) => lc.ct (1 + a1) A m c [(u, v)] W h hm)
  have HPL := Lib.hid (fun A m c W (h : Exs W W.heap.size A m c [(u, v)]) (hm : m ≤ 40) => lc.pl (1 + a1) a2 A m c [(u, v)] W h hm)
  rw [k1, k2] at HSZ
  rw [j1, j2] at HSZ2
  rw [j3] at HCT
  have HJ4 := Lib.hid (j4 a2)
  have HJ5 := Lib.hid (j5 a2 (by omega))
  have hmul0 : 0 ≤ wdt (u, v) * (1 + a1) := Int.mul_nonneg (by omega) (by omega)
  have hmul : wdt (u, v) * (1 + a1) ≤ 9 * 256 := Int.mul_le_mul d1 (by omega) (by omega) (by omega)
  have hnul0 : 0 ≤ a2 * wdt (u, v) := Int.mul_nonneg (by omega) (by omega)
  have hnul : a2 * wdt (u, v) ≤ 255 * 9 := Int.mul_le_mul (by omega) d1 (by omega) (by omega)
  generalize wdt (u, v) = wd at *
  obtain ⟨S, hS⟩ : ∃ S, wd * (1 + a1) = S := ⟨_, rfl⟩
  obtain ⟨X, hX⟩ : ∃ X, a2 * wd = X := ⟨_, rfl⟩
  rw [hS] at hmul hmul0 HSZ2
  rw [hX] at hnul hnul0 HJ5
  generalize plE (1 + a1) [(u, v)] a2 = pe at *
  generalize plV (1 + a1) [(u, v)] a2 = pv at *
  have HFX : Hid ((-9223372036854775808 ≤ u ∧ u ≤ 9223372036854775807) ∧ (-9223372036854775808 ≤ v ∧ v ≤ 9223372036854775807)) := Lib.hid ⟨by omega, by
    by_cases h6 : u = 6
    · have := hff.1 h6; omega
    · have := hff.2.1 h6; omega⟩
  clear w0 hrow hfit htv w1 w2 k1 k2 k3 k4 k5 j1 j2 j3 j4 j5 hff hfo
  go_enter Try.func8, Try.ntmps8
  go_wp2_with fail
  refine HOF.out.mono ?_
  rintro e w1 ⟨b, rfl, hts, hge, hb1⟩
  have HTS := Lib.hid hts
  have HB1 := Lib.hid hb1
  clear hts hb1 HOF
  go_wp2_with fail
  refine (HTY.out b w1 HTS.out).mono ?_
  rintro e w2 ⟨rfl, hts2, ho⟩
  have hb2 := HB1.out.trans (ho.below hge HB1.out.size)
  have hb3 := (Below.refl w2.heap.size w2).alloc (Nat.le_refl _) (.cells #[.int .i64 u, .int .i64 v] 36)
  have HF3 := Lib.hid (FdB.new (w := w2) (x := u) (y := v))
  have HB3 := Lib.hid (Below.then hb2 hb3 (Nat.le_refl _))
  have hsz3 : (w2.alloc (.cells #[.int .i64 u, .int .i64 v] 36)).heap.size = w2.heap.size + 1 := by simp
  have f0 := HF3.out.cell0
  have f1 := HF3.out.cell1
  clear hts2 ho hb2 hb3 HTS HB1 HTY
  go_wp2_with fail
  obtain ⟨w3, hw3⟩ : ∃ W, w2.alloc (.cells #[.int .i64 u, .int .i64 v] 36) = W := ⟨_, rfl⟩
  rw [hw3] at HF3 HB3 hsz3 ⊢
  clear hw3 f0 f1
  have m1 := fun W => made1 w3 (w2.heap.size + 1) hsz3 1 u v HFX.out W
  obtain ⟨y1, hy1⟩ : ∃ W, (w3.alloc (.cells #[.int .i64 u, .int .i64 v] 36)).alloc (.cells #[.int .i64 1, .slice (some ⟨w2.heap.size + 1, 0, none⟩) 1 1] 24) = W := ⟨_, rfl⟩
  obtain ⟨e1, e2, e3, e4⟩ := m1 y1 hy1
  rw [hy1]
  clear m1 hy1
  have m2 := fun W => made1 y1 (w2.heap.size + 1 + 1 + 1) e2 (1 + a1) u v HFX.out W
  obtain ⟨y2, hy2⟩ : ∃ W, (y1.alloc (.cells #[.int .i64 u, .int .i64 v] 36)).alloc (.cells #[.int .i64 (1 + a1), .slice (some ⟨w2.heap.size + 1 + 1 + 1, 0, none⟩) 1 1] 24) = W := ⟨_, rfl⟩
  obtain ⟨f1, f2, f3, f4⟩ := m2 y2 hy2
  rw [hy2]
  have HO := Lib.hid (e3.go f1)
  have HOX := Lib.hid (e4.go f1)
  have HT := Lib.hid f3
  have HTX := Lib.hid f4
  have HF := Lib.hid ((HF3.out.go e1).go f1)
  have HB := Lib.hid (Below.then (Below.then HB3.out e1 (Nat.le_refl _)) f1 (Nat.le_refl _))
  clear m2 hy2 e1 e2 e3 e4 f1 f2 f3 f4 HF3 HB3 hsz3
  generalize w2.heap.size = fb at *
  refine (HSZ.out _ _ _ y2 HOX.out (by omega)).mono ?_
  rintro e w4 ⟨rfl, hb⟩
  have HT4 := Lib.hid (HT.out.go hb)
  have HTX4 := Lib.hid (HTX.out.go hb)
  have HF4 := Lib.hid (HF.out.go hb)
  have HB4 := Lib.hid (Below.then HB.out hb (Nat.le_refl _))
  clear hb HO HOX HT HTX HF HB HSZ
  have c0 := HT4.out.cell0
  have c1 := HT4.out.cell1
  go_wp2_with fail
  refine (HSZ2.out _ _ _ w4 HTX4.out (by omega)).mono ?_
  rintro e w5 ⟨rfl, hb⟩
  have HT5 := Lib.hid (HT4.out.go hb)
  have HTX5 := Lib.hid (HTX4.out.go hb)
  have HF5 := Lib.hid (HF4.out.go hb)
  have HB5 := Lib.hid (Below.then HB4.out hb (Nat.le_refl _))
  clear hb HT4 HTX4 HF4 HB4 HSZ2 c0 c1
  have c0 := HT5.out.cell0
  have c1 := HT5.out.cell1
  by_cases hi : 1 + a1 ≤ a2
  · have d1 : decide (1 + a1 ≤ a2) = true := decide_eq_true hi
    obtain ⟨rfl, rfl⟩ := HJ4.out hi
    unfold plv at HPL
    simp only at HPL
    go_wp2_with fail
    refine (HPL.out _ _ _ w5 HTX5.out (by omega)).mono ?_
    rintro e w6 ⟨rfl, hb⟩
    have hb7 := hb.alloc hb.size (.cells #[.int .i64 0, .int .i64 0, .int .i64 0] 44)
    have HT7 := Lib.hid (HT5.out.go hb7)
    have HB7 := Lib.hid (Below.then HB5.out hb7 (Nat.le_refl _))
    have g0 := HT7.out.cell0
    clear hb hb7 HT5 HTX5 HF5 HB5 HPL c0 c1
    go_wp2_with fail
    generalize w6.alloc (.cells #[.int .i64 0, .int .i64 0, .int .i64 0] 44) = w7 at *
    refine (awake8_any lc w7).mono ?_
    rintro e w8 ⟨rfl, hb⟩
    have HB8 := Lib.hid (Below.then HB7.out hb (Nat.le_refl _))
    clear hb
    go_wp2
    go_ret
    exact ⟨rfl, HB8.out⟩
  · have d1 : decide (1 + a1 ≤ a2) = false := decide_eq_false hi
    obtain ⟨rfl, rfl⟩ := HJ5.out (by omega)
    unfold plv at HPL
    simp only at HPL
    go_wp2_with fail
    refine (HPL.out _ _ _ w5 HTX5.out (by omega)).mono ?_
    rintro e w6 ⟨rfl, hb⟩
    have hb7 := hb.alloc hb.size (.cells #[.int .i64 X, .int .i64 wd, .int .i64 u] 44)
    have HT7 := Lib.hid (HT5.out.go hb7)
    have HTX7 := Lib.hid (HTX5.out.go hb7)
    have HF7 := Lib.hid (HF5.out.go hb7)
    have HB7 := Lib.hid (Below.then HB5.out hb7 (Nat.le_refl _))
    have HP7 := Lib.hid (PlB.new (w := w6) (x := X) (y := wd) (z := u))
    have g0 := HT7.out.cell0
    clear hb hb7 HT5 HTX5 HF5 HB5 HPL c0 c1
    go_wp2_with fail
    generalize w6.alloc (.cells #[.int .i64 X, .int .i64 wd, .int .i64 u] 44) = w7 at *
    generalize w6.heap.size = pb at *
    have c0 : ∀ q : Later w7, q.val.cell? ⟨fb + 1 + 1 + 1 + 1, 0, none⟩ = some (.int .i64 (1 + a1)) := fun q => later_old q HT7.out.cell0
    have c1 : ∀ q : Later w7, q.val.cell? ⟨fb + 1 + 1 + 1 + 1, 1, none⟩ = some (.slice (some ⟨fb + 1 + 1 + 1, 0, none⟩) 1 1) := fun q => later_old q HT7.out.cell1
    have p0 : ∀ q : Later w7, q.val.cell? ⟨pb, 0, none⟩ = some (.int .i64 X) := fun q => later_old q HP7.out.cell0
    have p1 : ∀ q : Later w7, q.val.cell? ⟨pb, 1, none⟩ = some (.int .i64 wd) := fun q => later_old q HP7.out.cell1
    have p2 : ∀ q : Later w7, q.val.cell? ⟨pb, 2, none⟩ = some (.int .i64 u) := fun q => later_old q HP7.out.cell2
    have f0 : ∀ q : Later w7, q.val.cell? ⟨fb, 0, none⟩ = some (.int .i64 u) := fun q => later_old q HF7.out.cell0
    have M1 := Lib.hid (fun q : Later w7 => awake8_any lc q.val)
    have M2 := Lib.hid (fun q : Later w7 => HCT.out _ _ _ q.val (HTX7.out.go q.2) (by omega))
    refine wp_region_later (by kernel_rfl) (by kernel_rfl) ?_
    repeat (go_big_quiet_step (first
      | (go_at_call 10; exact Calls.later (M1.out _))
      | (go_at_call 15; exact Calls.later (M2.out _))))
    refine wpQuiet_nil ?_
    rintro w8 ⟨⟨_, hq⟩, rfl⟩
    have HB8 := Lib.hid (Below.then HB7.out hq (Nat.le_refl _))
    clear hq M1 M2 c0 c1 p0 p1 p2 f0
    go_wp2
    go_ret
    exact ⟨rfl, HB8.out⟩
end Go.Proofs.Ythchcgpbmkmfnaa
