/-
  Contracts of the landed meter's Fits. Conditions: what the plugin has lies within the limits, which are numbers of 64 bits.
-/
import Derived.Test.YtfhpdjlppblkcaaQmc
import Derived.Deep.QuietTactic
import Derived.BigQuiet
namespace Go.Proofs.Ytfhpdjlppblkcaa
open Go.ChangeShapes Go.WideShapes Go.ChangeAt Go.RowKit
set_option linter.unusedVariables false
set_option linter.unusedSimpArgs false
set_option maxHeartbeats 4000000
set_option maxRecDepth 100000

theorem cells3 {w : World} {b : Nat} {a d e : Value} {t : TypeId} (h : w.heap[b]? = some (.cells #[a, d, e] t (0, 0))) : w.cell? ⟨b, 0, none⟩ = some a ∧ w.cell? ⟨b, 1, none⟩ = some d ∧ w.cell? ⟨b, 2, none⟩ = some e :=
  ⟨cell_of_row w b 0 _ _ _ h, cell_of_row w b 1 _ _ _ h, cell_of_row w b 2 _ _ _ h⟩
section
variable {w : World} {c : Nat → Nat} {k N m : Nat} {l : Q3} {f : Int → Q3} {z : Int}
theorem fits_pos (H : Mtr w c k N m l f) (hz : Ri z) (hG : Gq l (f z)) (hl : l.In) (q : Q3) (hq : ¬ q.neg) : Calls Try.prog 13 #[.pointer (some ⟨m, 0, none⟩), .int .i64 z, q.val] w fun e w' => e = .returned (.int .i64 (if Q3.over l (f z) q then 16 else 0)) ∧ Below w.heap.size w w' := by
  obtain ⟨b, o, h⟩ := q
  have hn := neg_any ⟨b, o, h⟩ (w.alloc (.cells #[.int .i64 b, .int .i64 o, .int .i64 h] 25))
  rw [decide_eq_false hq] at hn
  obtain ⟨lb, lo, lh⟩ := l
  have HM := Lib.hid H
  obtain ⟨g1, g2, g3⟩ := hG
  obtain ⟨i1, i2, i3⟩ := hl
  have r1 := g1.room i1
  have r2 := g2.room i2
  have r3 := g3.room i3
  simp only at r1 r2 r3
  have HX : Hid (f z = f z) := Lib.hid rfl
  have hk : ∀ W, Below w.heap.size w W → ∃ mv, (W.cell? ⟨m, 0, none⟩ = some (.int .i64 lb) ∧ W.cell? ⟨m, 1, none⟩ = some (.int .i64 lo) ∧ W.cell? ⟨m, 2, none⟩ = some (.int .i64 lh) ∧ W.cell? ⟨m, 3, none⟩ = some (.map mv)) ∧ (Instr.lookup 45 (.map mv) (.int .i64 z) false).run Try.prog W = .ok (f z).val W := fun W hW => by
    obtain ⟨_, mv, h2, h3⟩ := H.go hW
    exact ⟨mv, meter_cells h2, h3.look hz⟩
  have HK := Lib.hid hk
  clear hk H HX HM g1 g2 g3 i1 i2 i3
  generalize f z = x at *
  obtain ⟨xb, xo, xh⟩ := x
  unfold Q3.val at *
  simp only at *
  generalize hE : (if Q3.over ⟨lb, lo, lh⟩ ⟨xb, xo, xh⟩ ⟨b, o, h⟩ then (16 : Int) else 0) = E
  have HV := Lib.hid hE
  clear hE
  have HN := Lib.hid hn
  have HB := Lib.hid (below3 w (.int .i64 b) (.int .i64 o) (.int .i64 h) 25)
  have HQ : Hid ((w.alloc (.cells #[.int .i64 b, .int .i64 o, .int .i64 h] 25)).heap[w.heap.size]? = some (.cells #[.int .i64 b, .int .i64 o, .int .i64 h] 25 (0, 0))) := Lib.hid (heap_alloc_new w _)
  clear hn hq
  have E1 := exc_any xb b lb r1
  have E2 := exc_any xo o lo r2
  have E3 := exc_any xh h lh r3
  have HE1 := Lib.hid E1
  have HE2 := Lib.hid E2
  have HE3 := Lib.hid E3
  clear E1 E2 E3 r1 r2 r3
  go_enter Try.func13, Try.ntmps13
  go_wp2_with fail
  refine HN.out.mono ?_
  rintro e w1 ⟨rfl, hb⟩
  have hb1 := Below.then HB.out hb (Nat.le_refl _)
  obtain ⟨mv, ⟨c0, c1, c2, c3⟩, hr⟩ := HK.out w1 hb1
  have hb2 : Below w.heap.size w (w1.alloc (.cells #[.int .i64 xb, .int .i64 xo, .int .i64 xh] 25)) := hb1.alloc hb1.size _
  obtain ⟨mv', ⟨d0, d1, d2, d3⟩, hr'⟩ := HK.out _ hb2
  have hq1 : w1.heap[w.heap.size]? = some (.cells #[.int .i64 b, .int .i64 o, .int .i64 h] 25 (0, 0)) := (hb.block _ (by simp)).trans HQ.out
  have hq2 : (w1.alloc (.cells #[.int .i64 xb, .int .i64 xo, .int .i64 xh] 25)).heap[w.heap.size]? = some (.cells #[.int .i64 b, .int .i64 o, .int .i64 h] 25 (0, 0)) := (Below.heap_alloc w1 _ _ (Array.getElem?_eq_some_iff.1 hq1).1).trans hq1
  obtain ⟨q0, q1, q2⟩ := cells3 hq2
  obtain ⟨x0, x1, x2⟩ := new3 w1 (.int .i64 xb) (.int .i64 xo) (.int .i64 xh) 25
  have HB2 := Lib.hid hb2
  clear HN hb hb1 HB HK hb2 hr' d3 hq1 hq2 HQ
  go_wp2_with fail
  by_cases t1 : lb < xb + b
  · rw [decide_eq_true t1] at HE1
    obtain rfl : E = 16 := by rw [← HV.out, if_pos (show Q3.over ⟨lb, lo, lh⟩ ⟨xb, xo, xh⟩ ⟨b, o, h⟩ from .inl t1)]
    clear t1
    go_quiet ((go_at_call 23; first | with_reducible exact Calls.quiet_of_same (HE1.out _) | with_reducible exact Calls.quiet_of_same (HE2.out _) | with_reducible exact Calls.quiet_of_same (HE3.out _)))
    have HB3 := Lib.hid (Below.then HB2.out (below_drewN (Below.refl _ _) nq) (Nat.le_refl _))
    clear HB2 HV HE1 HE2 HE3 c0 c1 c2 c3 d0 d1 d2 q0 q1 q2 x0 x1 x2 hr
    go_wp2
    go_ret
    exact ⟨rfl, HB3.out⟩
  rw [decide_eq_false t1] at HE1
  by_cases t2 : lo < xo + o
  · rw [decide_eq_true t2] at HE2
    obtain rfl : E = 16 := by rw [← HV.out, if_pos (show Q3.over ⟨lb, lo, lh⟩ ⟨xb, xo, xh⟩ ⟨b, o, h⟩ from .inr (.inl t2))]
    clear t1 t2
    go_quiet ((go_at_call 23; first | with_reducible exact Calls.quiet_of_same (HE1.out _) | with_reducible exact Calls.quiet_of_same (HE2.out _) | with_reducible exact Calls.quiet_of_same (HE3.out _)))
    have HB3 := Lib.hid (Below.then HB2.out (below_drewN (Below.refl _ _) nq) (Nat.le_refl _))
    clear HB2 HV HE1 HE2 HE3 c0 c1 c2 c3 d0 d1 d2 q0 q1 q2 x0 x1 x2 hr
    go_wp2
    go_ret
    exact ⟨rfl, HB3.out⟩
  rw [decide_eq_false t2] at HE2
  by_cases t3 : lh < xh + h
  · rw [decide_eq_true t3] at HE3
    obtain rfl : E = 16 := by rw [← HV.out, if_pos (show Q3.over ⟨lb, lo, lh⟩ ⟨xb, xo, xh⟩ ⟨b, o, h⟩ from .inr (.inr t3))]
    clear t1 t2 t3
    go_quiet ((go_at_call 23; first | with_reducible exact Calls.quiet_of_same (HE1.out _) | with_reducible exact Calls.quiet_of_same (HE2.out _) | with_reducible exact Calls.quiet_of_same (HE3.out _)))
    have HB3 := Lib.hid (Below.then HB2.out (below_drewN (Below.refl _ _) nq) (Nat.le_refl _))
    clear HB2 HV HE1 HE2 HE3 c0 c1 c2 c3 d0 d1 d2 q0 q1 q2 x0 x1 x2 hr
    go_wp2
    go_ret
    exact ⟨rfl, HB3.out⟩
  rw [decide_eq_false t3] at HE3
  obtain rfl : E = 0 := by rw [← HV.out, if_neg (show ¬ Q3.over ⟨lb, lo, lh⟩ ⟨xb, xo, xh⟩ ⟨b, o, h⟩ from fun e => by rcases e with e | e | e <;> contradiction)]
  clear t1 t2 t3
  go_quiet ((go_at_call 23; first | with_reducible exact Calls.quiet_of_same (HE1.out _) | with_reducible exact Calls.quiet_of_same (HE2.out _) | with_reducible exact Calls.quiet_of_same (HE3.out _)))
  have HB3 := Lib.hid (Below.then HB2.out (below_drewN (Below.refl _ _) nq) (Nat.le_refl _))
  clear HB2 HV HE1 HE2 HE3 c0 c1 c2 c3 d0 d1 d2 q0 q1 q2 x0 x1 x2 hr
  go_wp2
  go_ret
  exact ⟨rfl, HB3.out⟩
theorem fits_any (H : Mtr w c k N m l f) (hz : Ri z) (hG : Gd l f) (hl : l.In) (q : Q3) : Calls Try.prog 13 #[.pointer (some ⟨m, 0, none⟩), .int .i64 z, q.val] w fun e w' => e = .returned (.int .i64 (fitE l (f z) q)) ∧ Below w.heap.size w w' := by
  unfold fitE
  by_cases hq : q.neg
  · rw [if_pos hq]
    exact fits_neg H q hq
  · rw [if_neg hq]
    exact fits_pos H hz (hG z) hl q hq
end
end Go.Proofs.Ytfhpdjlppblkcaa
