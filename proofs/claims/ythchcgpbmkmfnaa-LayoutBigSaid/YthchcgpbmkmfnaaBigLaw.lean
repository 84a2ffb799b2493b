/-
  The law LayoutBig as a walk. No conditions.
-/
import Derived.Test.YthchcgpbmkmfnaaLyd
import Derived.Test.YthchcgpbmkmfnaaAwk
import Derived.Test.YthchcgpbmkmfnaaTyp
namespace Go.Proofs.Ythchcgpbmkmfnaa
open Go.ChangeShapes Go.WideShapes Go.RowKit
set_option linter.unusedVariables false
set_option maxHeartbeats 8000000
set_option maxRecDepth 100000

/-- A type with one field, made anew. -/
theorem made1 (w : World) (s : Nat) (hs : w.heap.size = s) (n u v : Int) (hf : (-9223372036854775808 ≤ u ∧ u ≤ 9223372036854775807) ∧ (-9223372036854775808 ≤ v ∧ v ≤ 9223372036854775807)) (w' : World)
    (hw : (w.alloc (.cells #[.int .i64 u, .int .i64 v] 36)).alloc (.cells #[.int .i64 n, .slice (some ⟨s, 0, none⟩) 1 1] 24) = w') :
    Below w.heap.size w w' ∧ w'.heap.size = s + 1 + 1 ∧ TyB w' (s + 1) n (some ⟨s, 0, none⟩) 1 1 ∧ Exs w' w'.heap.size (some ⟨s, 0, none⟩) 1 1 [(u, v)] := by
  subst hs
  have hx := Exs.new w [(u, v)] #[.int .i64 u, .int .i64 v] 36 1 rfl rfl (by unfold maxLen; omega) (fun x hx => by simp at hx; subst hx; exact hf)
  have hz : (w.alloc (.cells #[.int .i64 u, .int .i64 v] 36)).heap.size = w.heap.size + 1 := by simp
  rw [← hz] at hx
  have hb0 := (Below.refl w.heap.size w).alloc (Nat.le_refl _) (.cells #[.int .i64 u, .int .i64 v] 36)
  have hb1 := (Below.refl (w.alloc (.cells #[.int .i64 u, .int .i64 v] 36)).heap.size (w.alloc (.cells #[.int .i64 u, .int .i64 v] 36))).alloc (Nat.le_refl _) (.cells #[.int .i64 n, .slice (some ⟨w.heap.size, 0, none⟩) 1 1] 24)
  have ht := TyB.new (w := w.alloc (.cells #[.int .i64 u, .int .i64 v] 36)) (n := n) (A := some ⟨w.heap.size, 0, none⟩) (m := 1) (c := 1)
  rw [hz] at ht
  rw [hw] at ht hb1
  refine ⟨Below.then hb0 hb1 (Nat.le_refl _), by rw [← hw]; simp, ht, hx.go hb1⟩
theorem layoutBig_walk (a0 a1 a2 : Int) (w : World) (w0 : (Lit.int .u16 a0).wf = true) (w1 : (Lit.int .u16 a1).wf = true) (w2 : (Lit.int .u8 a2).wf = true) :
    Calls Try.prog 5 #[.int .u16 a0, .int .u16 a1, .int .u8 a2] w fun e w' => e = .returned (.bool true) ∧ Below w.heap.size w w' := by
  obtain ⟨i0, hi, hz0, hz1, hz2⟩ := info_parts infoFd
  have b0 := Go.bounds_u16 w0
  have b1 := Go.bounds_u16 w1
  have b2 := Go.bounds_u8 w2
  have HI := Lib.hid hi
  have HZ := Lib.hid hz0
  have q1 : 0 ≤ a1 % 9000 := Int.emod_nonneg _ (by omega)
  have q2 : a1 % 9000 < 9000 := Int.emod_lt_of_pos _ (by omega)
  have q3 : 0 ≤ a1 % 300 := Int.emod_nonneg _ (by omega)
  have q4 : a1 % 300 < 300 := Int.emod_lt_of_pos _ (by omega)
  have q5 : 0 ≤ a0 % 600 := Int.emod_nonneg _ (by omega)
  have q6 : a0 % 600 < 600 := Int.emod_lt_of_pos _ (by omega)
  have q7 : 0 ≤ a0 % 300 := Int.emod_nonneg _ (by omega)
  have q8 : a0 % 300 < 300 := Int.emod_lt_of_pos _ (by omega)
  have q9 : 0 ≤ a2 % 5 := Int.emod_nonneg _ (by omega)
  have q10 : a2 % 5 < 5 := Int.emod_lt_of_pos _ (by omega)
  obtain ⟨x1, hx1⟩ : ∃ x, a1 % 9000 = x := ⟨_, rfl⟩
  obtain ⟨x2, hx2⟩ : ∃ x, a1 % 300 = x := ⟨_, rfl⟩
  obtain ⟨x3, hx3⟩ : ∃ x, a0 % 600 = x := ⟨_, rfl⟩
  obtain ⟨x4, hx4⟩ : ∃ x, a0 % 300 = x := ⟨_, rfl⟩
  obtain ⟨x5, hx5⟩ : ∃ x, a2 % 5 = x := ⟨_, rfl⟩
  rw [hx1] at q1 q2
  rw [hx2] at q3 q4
  rw [hx3] at q5 q6
  rw [hx4] at q7 q8
  rw [hx5] at q9 q10
  clear w0 w1 w2 hi hz0
  go_enter Try.func5, Try.ntmps5
  go_wp2_with fail
  have m1 := fun W => made1 w w.heap.size rfl (a1 + 65000) 1 0 ⟨by omega, by omega⟩ W
  obtain ⟨y1, hy1⟩ : ∃ W, (w.alloc (.cells #[.int .i64 1, .int .i64 0] 36)).alloc (.cells #[.int .i64 (a1 + 65000), .slice (some ⟨w.heap.size, 0, none⟩) 1 1] 24) = W := ⟨_, rfl⟩
  obtain ⟨e1, e2, e3, e4⟩ := m1 y1 hy1
  rw [hy1]
  clear m1 hy1
  have m2 := fun W => made1 y1 (w.heap.size + 1 + 1) e2 (1 + x1) 4 0 ⟨by omega, by omega⟩ W
  obtain ⟨y2, hy2⟩ : ∃ W, (y1.alloc (.cells #[.int .i64 4, .int .i64 0] 36)).alloc (.cells #[.int .i64 (1 + x1), .slice (some ⟨w.heap.size + 1 + 1, 0, none⟩) 1 1] 24) = W := ⟨_, rfl⟩
  obtain ⟨f1, f2, f3, f4⟩ := m2 y2 hy2
  rw [hy2]
  clear m2 hy2
  have m3 := fun W => made1 y2 (w.heap.size + 1 + 1 + 1 + 1) f2 (1 + x2) 6 (1 + x3) ⟨by omega, by omega⟩ W
  obtain ⟨y3, hy3⟩ : ∃ W, (y2.alloc (.cells #[.int .i64 6, .int .i64 (1 + x3)] 36)).alloc (.cells #[.int .i64 (1 + x2), .slice (some ⟨w.heap.size + 1 + 1 + 1 + 1, 0, none⟩) 1 1] 24) = W := ⟨_, rfl⟩
  obtain ⟨g1, g2, g3, g4⟩ := m3 y3 hy3
  rw [hy3]
  clear m3 hy3
  have hb4 := (Below.refl y3.heap.size y3).alloc (Nat.le_refl _) (.cells #[.int .i64 0, .slice none 0 0] 24)
  have hw4 := TyB.new (w := y3) (n := 0) (A := none) (m := 0) (c := 0)
  have HE3 := Lib.hid (((e3.go f1).go g1).go hb4)
  have HE4 := Lib.hid ((((e4.go f1).go g1)).below hb4)
  have HF3 := Lib.hid ((f3.go g1).go hb4)
  have HF4 := Lib.hid ((f4.go g1).below hb4)
  have HG3 := Lib.hid (g3.go hb4)
  have HG4 := Lib.hid (g4.below hb4)
  have HB4 := Lib.hid (Below.then (Below.then (Below.then e1 f1 (Nat.le_refl _)) g1 (Nat.le_refl _)) hb4 (Nat.le_refl _))
  have hsz4 : (y3.alloc (.cells #[.int .i64 0, .slice none 0 0] 24)).heap.size = y3.heap.size + 1 := by simp
  rw [← g2]
  obtain ⟨wb, hwb⟩ : ∃ b, y3.heap.size = b := ⟨_, rfl⟩
  rw [hwb] at hw4 g2 hsz4 HE4 HF4 HG4 ⊢
  have HW4 := Lib.hid hw4
  generalize y3.alloc (.cells #[.int .i64 0, .slice none 0 0] 24) = y4 at *
  have g5 : w.heap.size + 5 < wb := by omega
  clear e1 e2 e3 e4 f1 f2 f3 f4 g1 g2 g3 g4 hb4 hw4 hwb
  rw [hx1, hx2, hx3]
  go_loopw [11] (fun iv wq => ∃ (j : Nat), (j : Int) ≤ 30 + x5 ∧ iv = .int .i64 j ∧ Hid (∃ A m c, TyB wq wb 0 A m c ∧ OwnE 36 wq (wb + 1) (.slice A m c) (List.replicate j (6, 1900 + x4)) ∧ Below wb y4 wq ∧ wb + 1 ≤ wq.heap.size)) (fun iv _ => 40 - (intOf iv).toNat)
  case atStart => exact ⟨0, by omega, rfl, Lib.hid ⟨none, 0, 0, HW4.out, OwnE.nil _ _ _, Below.refl _ _, by omega⟩⟩
  case round =>
    obtain ⟨j, hj, rfl, hh⟩ := hrel
    obtain ⟨A, m, c, hx, ho, hb, hsz⟩ := hh.out
    have HX := Lib.hid hx
    have HO := Lib.hid ho
    have HB := Lib.hid hb
    have hjl : (List.replicate j ((6 : Int), 1900 + x4)).length = j := by simp
    have HJL := Lib.hid hjl
    clear hh hx ho hb hjl
    by_cases hjm : (j : Int) < 30 + x5
    · have c1 := HX.out.cell1
      go_wp2_with (at_builtin; go_must (refine wpList_appE _ rfl (.tmp 46) (.tmp 52) 22 rfl Try.underlying22 HI.out HZ.out rfl hz1 (by omega) (HO.out.alloc _) rfl (Exs.new wr [(6, 1900 + x4)] _ _ 1 rfl rfl (by unfold maxLen; omega) (fun x hx => by simp at hx; subst hx; simp only; omega)) rfl (by have := HJL.out; omega) (by simp; omega) ?_); intro v5 w5 ho5 hb5 hg5; obtain ⟨A5, n5, c5, rfl, hx5⟩ := ho5.shape; have HB5 := Lib.hid (((Below.refl _ wr).alloc hsz _).trans hb5); have d1 := (HX.out.low HB5.out (Nat.lt_succ_self _)).cell1; have d2 := (HX.out.low HB5.out (Nat.lt_succ_self _)).fr 1; have HO5 := Lib.hid ho5; clear hg5 hb5 ho5 hx5)
      have HX6 := Lib.hid ((HX.out.low HB5.out (Nat.lt_succ_self _)).set1 (A' := A5) (m' := n5) (c' := c5))
      have HO6 : Hid (OwnE 36 (w5.setCell ⟨wb, 1, none⟩ (.slice A5 n5 c5)) (wb + 1) (.slice A5 n5 c5) (List.replicate (j + 1) (6, 1900 + x4))) := Lib.hid (by
        rw [List.replicate_succ']
        exact ⟨ownsRow_setCell_below HO5.out.1 (by simp only; omega) _, HO5.out.2⟩)
      have HB6 := Lib.hid ((HB.out.trans (HB5.out.mono (Nat.le_succ _))).setCell (p := ⟨wb, 1, none⟩) (Nat.le_refl _) (.slice A5 n5 c5))
      have hsz6 : wb + 1 ≤ (w5.setCell ⟨wb, 1, none⟩ (.slice A5 n5 c5)).heap.size := by have := HX6.out.lt; omega
      go_roundw
      case rel => exact ⟨j + 1, by omega, by go_num, Lib.hid ⟨A5, n5, c5, HX6.out, HO6.out, HB6.out, hsz6⟩⟩
      case measure => simp [intOf]; omega
    · obtain ⟨A', m', c', e', hx⟩ := HO.out.shape
      cases e'
      obtain rfl : m = j := by rw [← hx.len]; exact HJL.out
      have HXW := Lib.hid hx
      have HE3' := Lib.hid (HE3.out.low HB.out (by omega))
      have HF3' := Lib.hid (HF3.out.low HB.out (by omega))
      have HG3' := Lib.hid (HG3.out.low HB.out (by omega))
      have HE4' := Lib.hid ((HE4.out.below HB.out).more (B' := wr.heap.size) (by omega))
      have HF4' := Lib.hid ((HF4.out.below HB.out).more (B' := wr.heap.size) (by omega))
      have HG4' := Lib.hid ((HG4.out.below HB.out).more (B' := wr.heap.size) (by omega))
      have HB' := Lib.hid (HB4.out.trans (HB.out.mono (by omega)))
      clear hx HO HB HE3 HE4 HF3 HF4 HG3 HG4 HB4 HW4
      go_wp2_with fail
      refine (awake8_any lc wr).mono ?_
      rintro e w10 ⟨rfl, hb⟩
      have H1 := Lib.hid (HE3'.out.go hb); have H2 := Lib.hid (HE4'.out.go hb); have H3 := Lib.hid (HF3'.out.go hb); have H4 := Lib.hid (HF4'.out.go hb); have H5 := Lib.hid (HG3'.out.go hb); have H6 := Lib.hid (HG4'.out.go hb); have H7 := Lib.hid (HX.out.go hb); have H8 := Lib.hid (HXW.out.go hb)
      have HB10 := Lib.hid (HB'.out.trans (hb.mono HB'.out.size))
      clear hb HE3' HE4' HF3' HF4' HG3' HG4' HX HXW HB'
      have c0 := H1.out.cell0
      have c1 := H1.out.cell1
      go_wp2_with fail
      refine (same_any lc (a1 + 65000) 65535 _ _ _ _ w10 H2.out (by omega)).mono ?_
      rintro e w11 ⟨rfl, hb⟩
      have J3 := Lib.hid (H3.out.go hb); have J4 := Lib.hid (H4.out.go hb); have J5 := Lib.hid (H5.out.go hb); have J6 := Lib.hid (H6.out.go hb); have J7 := Lib.hid (H7.out.go hb); have J8 := Lib.hid (H8.out.go hb)
      have HB11 := Lib.hid (HB10.out.trans (hb.mono HB10.out.size))
      clear hb H1 H2 H3 H4 H5 H6 H7 H8 HB10 c0 c1
      have c0 := J3.out.cell0
      have c1 := J3.out.cell1
      go_wp2_with fail
      refine (same_any lc (1 + x1) 8191 _ _ _ _ w11 J4.out (by omega)).mono ?_
      rintro e w12 ⟨rfl, hb⟩
      have H5 := Lib.hid (J5.out.go hb); have H6 := Lib.hid (J6.out.go hb); have H7 := Lib.hid (J7.out.go hb); have H8 := Lib.hid (J8.out.go hb)
      have HB12 := Lib.hid (HB11.out.trans (hb.mono HB11.out.size))
      clear hb J3 J4 J5 J6 J7 J8 HB11 c0 c1
      have c0 := H5.out.cell0
      have c1 := H5.out.cell1
      go_wp2_with fail
      refine (same_any lc (1 + x2) x2 _ _ _ _ w12 H6.out (by omega)).mono ?_
      rintro e w13 ⟨rfl, hb⟩
      have J7 := Lib.hid (H7.out.go hb); have J8 := Lib.hid (H8.out.go hb)
      have HB13 := Lib.hid (HB12.out.trans (hb.mono HB12.out.size))
      clear hb H5 H6 H7 H8 HB12 c0 c1
      have c0 := J7.out.cell0
      have c1 := J7.out.cell1
      go_wp2_with fail
      refine (same_any lc 0 31 _ _ _ _ w13 J8.out (by omega)).mono ?_
      rintro e w14 ⟨rfl, hb⟩
      have HB14 := Lib.hid (HB13.out.trans (hb.mono HB13.out.size))
      clear hb J7 J8 HB13 c0 c1
      go_wp2
      go_ret
      exact ⟨rfl, HB14.out⟩
end Go.Proofs.Ythchcgpbmkmfnaa
