/-
  Contract of the model's Fits. Conditions: what the plugin has lies within the limits; limits and numbers are of 64 bits.
-/
import Derived.Test.YtfhpdjlppblkcaaQrg
namespace Go.Proofs.Ytfhpdjlppblkcaa
open Go.ChangeShapes Go.WideShapes Go.ChangeAt Go.RowKit
set_option linter.unusedVariables false
set_option linter.unusedSimpArgs false
set_option maxHeartbeats 4000000
set_option maxRecDepth 100000

section
variable {w w' w1 w2 : World} {c c' : Nat → Nat} {j k m N : Nat} {l : Q3} {S S' : List Sh} {z : Int} {q : Q3}
theorem fitsR_neg (H : Mmr w m l S) (z : Int) (q : Q3) (hq : q.neg) : Calls Try.prog 14 #[.pointer (some ⟨m, 0, none⟩), .int .i64 z, q.val] w fun e w' => e = .returned (.int .i64 1) ∧ Below w.heap.size w w' := by
  obtain ⟨b, o, h⟩ := q
  have HB := Lib.hid (below3 w (.int .i64 b) (.int .i64 o) (.int .i64 h) 25)
  unfold Q3.neg at hq
  unfold Q3.val
  simp only at hq ⊢
  clear H
  by_cases hb : b < 0
  · have db : decide (b < 0) = true := decide_eq_true hb
    clear hq
    go_enter Try.func14, Try.ntmps14
    go_wp2
    go_ret
    exact ⟨rfl, HB.out⟩
  · have db : decide (b < 0) = false := decide_eq_false hb
    by_cases ho : o < 0
    · have do_ : decide (o < 0) = true := decide_eq_true ho
      clear hq
      go_enter Try.func14, Try.ntmps14
      go_wp2
      go_ret
      exact ⟨rfl, HB.out⟩
    · have do_ : decide (o < 0) = false := decide_eq_false ho
      have hh : h < 0 := by omega
      have dh : decide (h < 0) = true := decide_eq_true hh
      clear hq
      go_enter Try.func14, Try.ntmps14
      go_wp2
      go_ret
      exact ⟨rfl, HB.out⟩
theorem fitsR_pos (H : Mmr w m l S) (z : Int) (hG : Gq l (getS z S)) (hl : l.In) (q : Q3) (hi : q.In) (hq : ¬ q.neg) : Calls Try.prog 14 #[.pointer (some ⟨m, 0, none⟩), .int .i64 z, q.val] w fun e w' => e = .returned (.int .i64 (if Q3.over l (getS z S) q then 16 else 0)) ∧ Below w.heap.size w w' := by
  obtain ⟨b, o, h⟩ := q
  have hb := below3 w (.int .i64 b) (.int .i64 o) (.int .i64 h) 25
  have hx0 := heap_alloc_new w (.cells #[.int .i64 b, .int .i64 o, .int .i64 h] 25)
  have HG := Lib.hid (getR_any (H.go hb) z)
  obtain ⟨n1, n2, n3⟩ := not_neg hq
  obtain ⟨⟨_, m1⟩, ⟨_, m2⟩, ⟨_, m3⟩⟩ := hi
  obtain ⟨g1, g2, g3⟩ := hG
  obtain ⟨lb, lo, lh⟩ := l
  obtain ⟨i1, i2, i3⟩ := hl
  have x1 := g1.1
  have x2 := g2.1
  have x3 := g3.1
  have HC : Hid (∀ W, Below w.heap.size w W → W.cell? ⟨m, 0, none⟩ = some (.int .i64 lb) ∧ W.cell? ⟨m, 1, none⟩ = some (.int .i64 lo) ∧ W.cell? ⟨m, 2, none⟩ = some (.int .i64 lh)) := Lib.hid fun W hW => by
    obtain ⟨A, n, cap, h2, _⟩ := H.go hW
    obtain ⟨d0, d1, d2, _⟩ := meter_cells h2
    exact ⟨d0, d1, d2⟩
  have HB := Lib.hid hb
  have HX := Lib.hid hx0
  clear H hb hx0 g1 g2 g3 hq
  generalize getS z S = x at *
  obtain ⟨xb, xo, xh⟩ := x
  generalize hE : (if Q3.over ⟨lb, lo, lh⟩ ⟨xb, xo, xh⟩ ⟨b, o, h⟩ then (16 : Int) else 0) = E
  have HV := Lib.hid hE
  clear hE
  unfold Q3.val at HG ⊢
  simp only at HG HB HX n1 n2 n3 m1 m2 m3 i1 i2 i3 x1 x2 x3 ⊢
  have HM : Hid ((0 ≤ b ∧ 0 ≤ o ∧ 0 ≤ h) ∧ (b ≤ 9223372036854775807 ∧ o ≤ 9223372036854775807 ∧ h ≤ 9223372036854775807) ∧ (0 ≤ xb ∧ 0 ≤ xo ∧ 0 ≤ xh) ∧ (-9223372036854775808 ≤ lb ∧ lb ≤ 9223372036854775807) ∧ (-9223372036854775808 ≤ lo ∧ lo ≤ 9223372036854775807) ∧ (-9223372036854775808 ≤ lh ∧ lh ≤ 9223372036854775807)) := Lib.hid (by omega)
  have nb : ¬ b < 0 := by omega
  have no_ : ¬ o < 0 := by omega
  have nh : ¬ h < 0 := by omega
  have db : decide (b < 0) = false := decide_eq_false nb
  have do_ : decide (o < 0) = false := decide_eq_false no_
  have dh : decide (h < 0) = false := decide_eq_false nh
  clear n1 n2 n3 m1 m2 m3 i1 i2 i3 x1 x2 x3
  go_enter Try.func14, Try.ntmps14
  go_wp2_with fail
  refine HG.out.mono ?_
  rintro e w1 ⟨rfl, hb⟩
  have hb1 := Below.then HB.out hb (Nat.le_refl _)
  have hb2 : Below w.heap.size w (w1.alloc (.cells #[.int .i64 xb, .int .i64 xo, .int .i64 xh] 25)) := hb1.alloc hb1.size _
  obtain ⟨d0, d1, d2⟩ := HC.out _ hb2
  have hq1 := (hb.block _ (Array.getElem?_eq_some_iff.1 HX.out).1).trans HX.out
  have hq2 := (Below.heap_alloc w1 (.cells #[.int .i64 xb, .int .i64 xo, .int .i64 xh] 25) _ (Array.getElem?_eq_some_iff.1 hq1).1).trans hq1
  obtain ⟨q0, q1, q2⟩ := cells3 hq2
  obtain ⟨x0, x1, x2⟩ := new3 w1 (.int .i64 xb) (.int .i64 xo) (.int .i64 xh) 25
  have HB2 := Lib.hid hb2
  clear HG hb hb1 HB HC hb2 hq1 hq2 HX nb no_ nh db do_ dh
  go_wp2_with fail
  by_cases t1 : lb < 0
  · have dt1 : decide (lb < 0) = true := decide_eq_true t1
    obtain rfl : E = 16 := by
      have := HM.out
      rw [← HV.out, if_pos (show Q3.over ⟨lb, lo, lh⟩ ⟨xb, xo, xh⟩ ⟨b, o, h⟩ from .inl (show lb < xb + b by omega))]
    have HE1 : Hid True := Lib.hid trivial
    go_quiet (fail)
    have HB3 := Lib.hid (Below.then HB2.out (below_drewN (Below.refl _ _) nq) (Nat.le_refl _))
    clear HB2 HV HM HE1 d0 d1 d2 q0 q1 q2 x0 x1 x2
    go_wp2
    go_ret
    exact ⟨rfl, HB3.out⟩
  have dt1 : decide (lb < 0) = false := decide_eq_false t1
  by_cases t2 : lo < 0
  · have dt2 : decide (lo < 0) = true := decide_eq_true t2
    obtain rfl : E = 16 := by
      have := HM.out
      rw [← HV.out, if_pos (show Q3.over ⟨lb, lo, lh⟩ ⟨xb, xo, xh⟩ ⟨b, o, h⟩ from .inr (.inl (show lo < xo + o by omega)))]
    have HE1 : Hid True := Lib.hid trivial
    go_quiet (fail)
    have HB3 := Lib.hid (Below.then HB2.out (below_drewN (Below.refl _ _) nq) (Nat.le_refl _))
    clear HB2 HV HM HE1 d0 d1 d2 q0 q1 q2 x0 x1 x2
    go_wp2
    go_ret
    exact ⟨rfl, HB3.out⟩
  have dt2 : decide (lo < 0) = false := decide_eq_false t2
  by_cases t3 : lh < 0
  · have dt3 : decide (lh < 0) = true := decide_eq_true t3
    obtain rfl : E = 16 := by
      have := HM.out
      rw [← HV.out, if_pos (show Q3.over ⟨lb, lo, lh⟩ ⟨xb, xo, xh⟩ ⟨b, o, h⟩ from .inr (.inr (show lh < xh + h by omega)))]
    have HE1 : Hid True := Lib.hid trivial
    go_quiet (fail)
    have HB3 := Lib.hid (Below.then HB2.out (below_drewN (Below.refl _ _) nq) (Nat.le_refl _))
    clear HB2 HV HM HE1 d0 d1 d2 q0 q1 q2 x0 x1 x2
    go_wp2
    go_ret
    exact ⟨rfl, HB3.out⟩
  have dt3 : decide (lh < 0) = false := decide_eq_false t3
  have HE1 := Lib.hid (excR_any xb b lb (by have := HM.out; omega) HM.out.2.2.1.1)
  have HE2 := Lib.hid (excR_any xo o lo (by have := HM.out; omega) HM.out.2.2.1.2.1)
  have HE3 := Lib.hid (excR_any xh h lh (by have := HM.out; omega) HM.out.2.2.1.2.2)
  by_cases s1 : lb < xb + b
  · rw [decide_eq_true s1] at HE1
    obtain rfl : E = 16 := by rw [← HV.out, if_pos (show Q3.over ⟨lb, lo, lh⟩ ⟨xb, xo, xh⟩ ⟨b, o, h⟩ from .inl s1)]
    clear s1
    go_quiet ((go_at_call 24; first | with_reducible exact Calls.quiet_of_same (HE1.out _) | with_reducible exact Calls.quiet_of_same (HE2.out _) | with_reducible exact Calls.quiet_of_same (HE3.out _)))
    have HB3 := Lib.hid (Below.then HB2.out (below_drewN (Below.refl _ _) nq) (Nat.le_refl _))
    clear HB2 HV HM HE1 HE2 HE3 d0 d1 d2 q0 q1 q2 x0 x1 x2
    go_wp2
    go_ret
    exact ⟨rfl, HB3.out⟩
  rw [decide_eq_false s1] at HE1
  by_cases s2 : lo < xo + o
  · rw [decide_eq_true s2] at HE2
    obtain rfl : E = 16 := by rw [← HV.out, if_pos (show Q3.over ⟨lb, lo, lh⟩ ⟨xb, xo, xh⟩ ⟨b, o, h⟩ from .inr (.inl s2))]
    clear s1 s2
    go_quiet ((go_at_call 24; first | with_reducible exact Calls.quiet_of_same (HE1.out _) | with_reducible exact Calls.quiet_of_same (HE2.out _) | with_reducible exact Calls.quiet_of_same (HE3.out _)))
    have HB3 := Lib.hid (Below.then HB2.out (below_drewN (Below.refl _ _) nq) (Nat.le_refl _))
    clear HB2 HV HM HE1 HE2 HE3 d0 d1 d2 q0 q1 q2 x0 x1 x2
    go_wp2
    go_ret
    exact ⟨rfl, HB3.out⟩
  rw [decide_eq_false s2] at HE2
  by_cases s3 : lh < xh + h
  · rw [decide_eq_true s3] at HE3
    obtain rfl : E = 16 := by rw [← HV.out, if_pos (show Q3.over ⟨lb, lo, lh⟩ ⟨xb, xo, xh⟩ ⟨b, o, h⟩ from .inr (.inr s3))]
    clear s1 s2 s3
    go_quiet ((go_at_call 24; first | with_reducible exact Calls.quiet_of_same (HE1.out _) | with_reducible exact Calls.quiet_of_same (HE2.out _) | with_reducible exact Calls.quiet_of_same (HE3.out _)))
    have HB3 := Lib.hid (Below.then HB2.out (below_drewN (Below.refl _ _) nq) (Nat.le_refl _))
    clear HB2 HV HM HE1 HE2 HE3 d0 d1 d2 q0 q1 q2 x0 x1 x2
    go_wp2
    go_ret
    exact ⟨rfl, HB3.out⟩
  rw [decide_eq_false s3] at HE3
  obtain rfl : E = 0 := by rw [← HV.out, if_neg (show ¬ Q3.over ⟨lb, lo, lh⟩ ⟨xb, xo, xh⟩ ⟨b, o, h⟩ from fun e => by rcases e with e | e | e <;> contradiction)]
  clear s1 s2 s3
  go_quiet ((go_at_call 24; first | with_reducible exact Calls.quiet_of_same (HE1.out _) | with_reducible exact Calls.quiet_of_same (HE2.out _) | with_reducible exact Calls.quiet_of_same (HE3.out _)))
  have HB3 := Lib.hid (Below.then HB2.out (below_drewN (Below.refl _ _) nq) (Nat.le_refl _))
  clear HB2 HV HM HE1 HE2 HE3 d0 d1 d2 q0 q1 q2 x0 x1 x2
  go_wp2
  go_ret
  exact ⟨rfl, HB3.out⟩
theorem fitsR_any (H : Mmr w m l S) (z : Int) (hG : Gq l (getS z S)) (hl : l.In) (q : Q3) (hi : q.In) : Calls Try.prog 14 #[.pointer (some ⟨m, 0, none⟩), .int .i64 z, q.val] w fun e w' => e = .returned (.int .i64 (fitE l (getS z S) q)) ∧ Below w.heap.size w w' := by
  unfold fitE
  by_cases hq : q.neg
  · rw [if_pos hq]
    exact fitsR_neg H z q hq
  · rw [if_neg hq]
    exact fitsR_pos H z hG hl q hi hq
end
end Go.Proofs.Ytfhpdjlppblkcaa
