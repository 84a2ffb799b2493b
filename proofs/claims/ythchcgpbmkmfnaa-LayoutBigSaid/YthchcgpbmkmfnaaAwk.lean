/-
  The example of chapter 8 and the law LayoutRaw as a walk, under contracts of package layout. Conditions: those contracts.
-/
import Derived.Test.YthchcgpbmkmfnaaSam
namespace Go.Proofs.Ythchcgpbmkmfnaa
open Go.ChangeShapes Go.WideShapes Go.RowKit
set_option linter.unusedVariables false
set_option maxHeartbeats 8000000
set_option maxRecDepth 100000

theorem aw_facts : szt 0 [(1, 0), (3, 0), (2, 0)] = 12 ∧ chk 0 [(1, 0), (3, 0), (2, 0)] = 0 ∧ plV 0 [(1, 0), (3, 0), (2, 0)] 2 = (8, 2, 2) ∧ plE 0 [(1, 0), (3, 0), (2, 0)] 2 = 0 := by decide
theorem awake8_any (H : Lc) (w : World) : Calls Try.prog 10 #[] w (Says w (.bool true)) := by
  have hx0 := Exs.new w [(1, 0), (3, 0), (2, 0)] #[.int .i64 1, .int .i64 0, .int .i64 3, .int .i64 0, .int .i64 2, .int .i64 0] 36 3 rfl rfl (by unfold maxLen; omega) (fun x hx => by simp at hx; rcases hx with rfl | rfl | rfl <;> simp)
  have hb0 : Below w.heap.size w (w.alloc (.cells #[.int .i64 1, .int .i64 0, .int .i64 3, .int .i64 0, .int .i64 2, .int .i64 0] 36)) := (Below.refl _ _).alloc (Nat.le_refl _) _
  have hz0 : (w.alloc (.cells #[.int .i64 1, .int .i64 0, .int .i64 3, .int .i64 0, .int .i64 2, .int .i64 0] 36)).heap.size = w.heap.size + 1 := by simp
  rw [← hz0] at hx0
  have hb1 : Below (w.alloc (.cells #[.int .i64 1, .int .i64 0, .int .i64 3, .int .i64 0, .int .i64 2, .int .i64 0] 36)).heap.size (w.alloc (.cells #[.int .i64 1, .int .i64 0, .int .i64 3, .int .i64 0, .int .i64 2, .int .i64 0] 36)) ((w.alloc (.cells #[.int .i64 1, .int .i64 0, .int .i64 3, .int .i64 0, .int .i64 2, .int .i64 0] 36)).alloc (.cells #[.int .i64 0, .slice (some ⟨w.heap.size, 0, none⟩) 3 3] 24)) := (Below.refl _ _).alloc (Nat.le_refl _) _
  have ht1 := TyB.new (w := w.alloc (.cells #[.int .i64 1, .int .i64 0, .int .i64 3, .int .i64 0, .int .i64 2, .int .i64 0] 36)) (n := 0) (A := some ⟨w.heap.size, 0, none⟩) (m := 3) (c := 3)
  rw [hz0] at ht1
  have HX1 := Lib.hid (hx0.go hb1)
  have HT1 := Lib.hid ht1
  have HB1 := Lib.hid (Below.then hb0 hb1 (Nat.le_refl _))
  have K1 := Lib.hid (fun W (hW : Exs W W.heap.size (some ⟨w.heap.size, 0, none⟩) 3 3 [(1, 0), (3, 0), (2, 0)]) => H.pl 0 2 _ 3 3 _ W hW (by omega))
  have K2 := Lib.hid (fun W (hW : Exs W W.heap.size (some ⟨w.heap.size, 0, none⟩) 3 3 [(1, 0), (3, 0), (2, 0)]) => H.sz 0 _ 3 3 _ W hW (by omega))
  obtain ⟨f1, f2, f3, f4⟩ := aw_facts
  rw [f3, f4] at K1
  rw [f1, f2] at K2
  unfold plv at K1
  simp only at K1
  clear hx0 hb0 hb1 ht1 f1 f2 f3 f4 hz0
  go_enter Try.func10, Try.ntmps10
  go_wp2_with fail
  generalize (w.alloc (.cells #[.int .i64 1, .int .i64 0, .int .i64 3, .int .i64 0, .int .i64 2, .int .i64 0] 36)).alloc (.cells #[.int .i64 0, .slice (some ⟨w.heap.size, 0, none⟩) 3 3] 24) = w1 at *
  generalize hta : w.heap.size = ta at *
  have hw1 : ta ≤ w1.heap.size := by have := HT1.out.lt; omega
  refine (K1.out w1 HX1.out).mono ?_
  rintro e w2 ⟨rfl, hb⟩
  have hb3 : Below w1.heap.size w1 (w2.alloc (.cells #[.int .i64 8, .int .i64 2, .int .i64 2] 44)) := hb.alloc hb.size _
  have HX3 := Lib.hid (HX1.out.go hb3)
  have HT3 := Lib.hid (HT1.out.go hb3)
  have HB3 := Lib.hid (HB1.out.trans (hb3.mono hw1))
  have HP3 := Lib.hid (PlB.new (w := w2) (x := 8) (y := 2) (z := 2))
  have hw3 : ta ≤ (w2.alloc (.cells #[.int .i64 8, .int .i64 2, .int .i64 2] 44)).heap.size := Nat.le_trans hw1 hb3.size
  clear hb hb3 K1 HX1 HT1 HB1
  have c0 := HT3.out.cell0
  have c1 := HT3.out.cell1
  go_wp2_with fail
  generalize w2.alloc (.cells #[.int .i64 8, .int .i64 2, .int .i64 2] 44) = w3 at *
  generalize w2.heap.size = t1 at *
  refine (K2.out w3 HX3.out).mono ?_
  rintro e w4 ⟨rfl, hb⟩
  have HB4 := Lib.hid (HB3.out.trans (hb.mono hw3))
  have HP4 := Lib.hid (HP3.out.go hb)
  have p0 := HP4.out.cell0
  have p1 := HP4.out.cell1
  have p2 := HP4.out.cell2
  clear hb K2 HX3 HT3 HB3 HP3 c0 c1
  go_wp2
  go_ret
  exact ⟨rfl, by rw [hta]; exact HB4.out⟩
theorem few_any (n : Int) (A : Option Addr) (m c : Nat) (w : World) (hm : m ≤ c) (hc : c ≤ maxLen) :
    Calls Try.prog 9 #[.agg #[.int .i64 n, .slice A m c]] w (Says w (.bool (decide (m ≤ 40)))) := by
  unfold maxLen at hc
  have hb0 : Below w.heap.size w (w.alloc (.cells #[.int .i64 n, .slice A m c] 24)) := (Below.refl _ _).alloc (Nat.le_refl _) _
  have HB0 := Lib.hid hb0
  clear hb0
  go_enter Try.func9, Try.ntmps9
  go_wp2
  go_ret
  refine ⟨?_, HB0.out⟩
  by_cases h : m ≤ 40
  · have h' : (m : Int) ≤ 40 := by omega
    simp [h]
    omega
  · simp [h]
    omega
theorem layoutRaw_walkC (H : Lc) (n : Int) (A : Option Addr) (m c : Nat) (l : List (Int × Int)) (i : Int) (w : World) (h0 : (Lit.int .i64 n).wf = true) (h : IsExs w A m c l) (hi : (Lit.int .i64 i).wf = true) :
    Calls Try.prog 3 #[.agg #[.int .i64 n, .slice A m c], .int .i64 i] w fun e w' => e = .returned (.bool true) ∧ Below w.heap.size w w' := by
  have h : Exs w w.heap.size A m c l := h
  have hb0 : Below w.heap.size w (w.alloc (.cells #[.int .i64 n, .slice A m c] 24)) := (Below.refl _ _).alloc (Nat.le_refl _) _
  have HB1 := Lib.hid hb0
  have HT1 := Lib.hid (TyB.new (w := w) (n := n) (A := A) (m := m) (c := c))
  have HX1 := Lib.hid (h.go hb0)
  have HA := Lib.hid (fun W => awake8_any H W)
  have K1 := Lib.hid (few_any n A m c (w.alloc (.cells #[.int .i64 n, .slice A m c] 24)) h.cap h.small)
  have K2 := Lib.hid (fun W (hW : Exs W W.heap.size A m c l) (hm : m ≤ 40) => same_any H n i A m c l W hW hm)
  clear h0 h hi hb0
  go_enter Try.func3, Try.ntmps3
  go_wp2_with fail
  refine K1.out.mono ?_
  generalize w.alloc (.cells #[.int .i64 n, .slice A m c] 24) = w1 at *
  generalize htb : w.heap.size = tb at *
  have hw1 : tb ≤ w1.heap.size := Nat.le_of_lt HT1.out.lt
  rintro e w2 ⟨rfl, hb⟩
  have HX2 := Lib.hid (HX1.out.go hb)
  have HT2 := Lib.hid (HT1.out.go hb)
  have HB2 := Lib.hid (HB1.out.trans (hb.mono hw1))
  have hw2 : tb ≤ w2.heap.size := Nat.le_trans hw1 hb.size
  clear hb K1 HX1 HT1 HB1
  by_cases hm : m ≤ 40
  · have d1 : decide (m ≤ 40) = true := decide_eq_true hm
    rw [d1]
    go_wp2_with fail
    refine (HA.out w2).mono ?_
    rintro e w3 ⟨rfl, hb⟩
    have HX3 := Lib.hid (HX2.out.go hb)
    have HT3 := Lib.hid (HT2.out.go hb)
    have HB3 := Lib.hid (HB2.out.trans (hb.mono hw2))
    have hw3 : tb ≤ w3.heap.size := Nat.le_trans hw2 hb.size
    have c0 := HT3.out.cell0
    have c1 := HT3.out.cell1
    clear hb HX2 HT2 HB2
    go_wp2_with fail
    refine (K2.out w3 HX3.out hm).mono ?_
    rintro e w4 ⟨rfl, hb⟩
    have HB4 := Lib.hid (HB3.out.trans (hb.mono hw3))
    clear hb
    go_wp2
    go_ret
    exact ⟨rfl, by rw [htb]; exact HB4.out⟩
  · have d1 : decide (m ≤ 40) = false := decide_eq_false hm
    rw [d1]
    go_wp2_with fail
    refine (HA.out w2).mono ?_
    rintro e w3 ⟨rfl, hb⟩
    have HB3 := Lib.hid (HB2.out.trans (hb.mono hw2))
    clear hb
    go_wp2
    go_ret
    exact ⟨rfl, by rw [htb]; exact HB3.out⟩
end Go.Proofs.Ythchcgpbmkmfnaa
