/-
  Contracts of the landed meter's negative, exceeds, New, Get, Fits, and of a nil meter's. Conditions: what each plugin has lies within the limits.
-/
import Derived.Test.YtfhpdjlppblkcaaQmt
namespace Go.Proofs.Ytfhpdjlppblkcaa
open Go.ChangeShapes Go.WideShapes Go.ChangeAt Go.RowKit
set_option linter.unusedVariables false
set_option linter.unusedSimpArgs false
set_option maxHeartbeats 4000000
set_option maxRecDepth 100000

theorem neg_any (q : Q3) (w : World) : Calls Try.prog 22 #[q.val] w fun e w' => e = .returned (.bool (decide q.neg)) ∧ Below w.heap.size w w' := by
  obtain ⟨b, o, h⟩ := q
  unfold Q3.val
  simp only
  by_cases hb : b < 0
  · rw [decide_eq_true (show Q3.neg ⟨b, o, h⟩ from .inl hb)]
    go_enter Try.func22, Try.ntmps22
    go_wp2
    go_ret
    exact ⟨rfl, (Below.refl _ _).alloc (Nat.le_refl _) _⟩
  · by_cases ho : o < 0
    · rw [decide_eq_true (show Q3.neg ⟨b, o, h⟩ from .inr (.inl ho))]
      go_enter Try.func22, Try.ntmps22
      go_wp2
      go_ret
      exact ⟨rfl, (Below.refl _ _).alloc (Nat.le_refl _) _⟩
    · by_cases hh : h < 0
      · rw [decide_eq_true (show Q3.neg ⟨b, o, h⟩ from .inr (.inr hh))]
        go_enter Try.func22, Try.ntmps22
        go_wp2
        go_ret
        exact ⟨rfl, (Below.refl _ _).alloc (Nat.le_refl _) _⟩
      · rw [decide_eq_false (show ¬ Q3.neg ⟨b, o, h⟩ from fun e => by rcases e with e | e | e <;> contradiction)]
        go_enter Try.func22, Try.ntmps22
        go_wp2
        go_ret
        exact ⟨rfl, (Below.refl _ _).alloc (Nat.le_refl _) _⟩
theorem exc_any (a q l : Int) (hr : -9223372036854775808 ≤ l - a ∧ l - a ≤ 9223372036854775807) (w : World) : Calls Try.prog 23 #[.int .i64 a, .int .i64 q, .int .i64 l] w fun e w' => e = .returned (.bool (decide (l < a + q))) ∧ w' = w := by
  have hw : IntKind.i64.wrap (l - a) = l - a := IntWalk.i64_in _ hr
  by_cases h : l < a + q
  · rw [decide_eq_true h]
    have hd : l - a < q := by omega
    clear h hr
    go_enter Try.func23, Try.ntmps23
    go_wp2
    go_ret
    exact ⟨rfl, rfl⟩
  · rw [decide_eq_false h]
    have hd : ¬ l - a < q := by omega
    clear h hr
    go_enter Try.func23, Try.ntmps23
    go_wp2
    go_ret
    exact ⟨rfl, rfl⟩
theorem newQ_any (l : Q3) (w : World) (c : Nat → Nat) (k : Nat) : Calls Try.prog 8 #[l.val] w fun e w' => ∃ m, e = .returned (.pointer (some ⟨m, 0, none⟩)) ∧ w.heap.size ≤ m ∧ Mtr w' (rc c w.heap.size k) k 0 m l (fun _ => Q3.nul) ∧ Below w.heap.size w w' := by
  have hb := (Below.refl w.heap.size w).alloc (Nat.le_refl _) (.cells #[.int .i64 l.b, .int .i64 l.o, .int .i64 l.h] 25)
  have HM := Lib.hid (Mtr.made (w.alloc (.cells #[.int .i64 l.b, .int .i64 l.o, .int .i64 l.h] 25)) (rc c w.heap.size k) k l)
  rw [rc_rc hb.size] at HM
  have HB := Lib.hid (hb.alloc hb.size (.cells (mcs l none) 47))
  rw [show (w.alloc (.cells #[.int .i64 l.b, .int .i64 l.o, .int .i64 l.h] 25)).heap.size = w.heap.size + 1 by simp] at HM
  obtain ⟨b, o, h⟩ := l
  unfold Q3.val
  unfold mcs at HM HB
  simp only at HM HB ⊢
  clear hb
  go_enter Try.func8, Try.ntmps8
  go_wp2
  go_ret
  refine ⟨_, rfl, ?_, HM.out, HB.out⟩
  simp
/-- The cells of a new quota. -/
theorem new3 (w : World) (a b d : Value) (t : TypeId) : (w.alloc (.cells #[a, b, d] t)).cell? ⟨w.heap.size, 0, none⟩ = some a ∧ (w.alloc (.cells #[a, b, d] t)).cell? ⟨w.heap.size, 1, none⟩ = some b ∧ (w.alloc (.cells #[a, b, d] t)).cell? ⟨w.heap.size, 2, none⟩ = some d :=
  ⟨cell_of_row _ _ 0 _ _ _ (heap_alloc_new w _), cell_of_row _ _ 1 _ _ _ (heap_alloc_new w _), cell_of_row _ _ 2 _ _ _ (heap_alloc_new w _)⟩
theorem below3 (w : World) (a b d : Value) (t : TypeId) : Below w.heap.size w (w.alloc (.cells #[a, b, d] t)) := (Below.refl _ _).alloc (Nat.le_refl _) _
section
variable {w : World} {c : Nat → Nat} {k N m : Nat} {l : Q3} {f : Int → Q3} {z : Int}
theorem getQ_nil (w : World) (z : Int) : Calls Try.prog 10 #[.pointer none, .int .i64 z] w fun e w' => e = .returned Q3.nul.val ∧ Below w.heap.size w w' := by
  have HB := Lib.hid (below3 w (.int .i64 0) (.int .i64 0) (.int .i64 0) 25)
  obtain ⟨k0, k1, k2⟩ := new3 w (.int .i64 0) (.int .i64 0) (.int .i64 0) 25
  go_enter Try.func10, Try.ntmps10
  go_wp2
  exact bodyPost_ret (v := .agg #[.int .i64 0, .int .i64 0, .int .i64 0]) (by simp [results, Try.results10, go_sem, k0, k1, k2]) rfl ⟨rfl, HB.out⟩
theorem getQ_any (H : Mtr w c k N m l f) (hz : Ri z) : Calls Try.prog 10 #[.pointer (some ⟨m, 0, none⟩), .int .i64 z] w fun e w' => e = .returned (f z).val ∧ Below w.heap.size w w' := by
  obtain ⟨_, mv, h2, h3⟩ := H.go (below3 w (.int .i64 0) (.int .i64 0) (.int .i64 0) 25)
  have hr := h3.look hz
  obtain ⟨c0, c1, c2, c3⟩ := meter_cells h2
  clear h2 h3 H
  generalize f z = x at *
  obtain ⟨xb, xo, xh⟩ := x
  unfold Q3.val at *
  simp only at *
  have HB := Lib.hid (below3 w (.int .i64 xb) (.int .i64 xo) (.int .i64 xh) 25)
  have HC := Lib.hid (new3 w (.int .i64 xb) (.int .i64 xo) (.int .i64 xh) 25)
  go_enter Try.func10, Try.ntmps10
  go_wp2
  obtain ⟨k0, k1, k2⟩ := HC.out
  exact bodyPost_ret (v := .agg #[.int .i64 xb, .int .i64 xo, .int .i64 xh]) (by simp [results, Try.results10, go_sem, k0, k1, k2]) rfl ⟨rfl, HB.out⟩
theorem fits_nil (w : World) (z : Int) (q : Q3) : Calls Try.prog 13 #[.pointer none, .int .i64 z, q.val] w fun e w' => e = .returned (.int .i64 1) ∧ Below w.heap.size w w' := by
  obtain ⟨b, o, h⟩ := q
  unfold Q3.val
  simp only
  go_enter Try.func13, Try.ntmps13
  go_wp2
  go_ret
  exact ⟨rfl, (Below.refl _ _).alloc (Nat.le_refl _) _⟩
theorem fits_neg (H : Mtr w c k N m l f) (q : Q3) (hq : q.neg) : Calls Try.prog 13 #[.pointer (some ⟨m, 0, none⟩), .int .i64 z, q.val] w fun e w' => e = .returned (.int .i64 1) ∧ Below w.heap.size w w' := by
  obtain ⟨b, o, h⟩ := q
  have hn := neg_any ⟨b, o, h⟩ (w.alloc (.cells #[.int .i64 b, .int .i64 o, .int .i64 h] 25))
  rw [decide_eq_true hq] at hn
  unfold Q3.val at *
  simp only at *
  have HN := Lib.hid hn
  have HB := Lib.hid (below3 w (.int .i64 b) (.int .i64 o) (.int .i64 h) 25)
  clear hn H hq
  go_enter Try.func13, Try.ntmps13
  go_wp2_with fail
  refine HN.out.mono ?_
  rintro e w1 ⟨rfl, hb⟩
  have HB1 := Lib.hid (Below.then HB.out hb (Nat.le_refl _))
  clear HN hb
  go_wp2
  go_ret
  exact ⟨rfl, HB1.out⟩
end
end Go.Proofs.Ytfhpdjlppblkcaa
