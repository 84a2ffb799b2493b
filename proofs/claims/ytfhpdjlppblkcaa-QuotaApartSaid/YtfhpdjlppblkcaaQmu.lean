/-
  Contracts of the landed meter's Sub. Conditions: what each plugin has lies within the limits; fewer than a hundred thousand changes so far.
-/
import Derived.Test.YtfhpdjlppblkcaaQma
namespace Go.Proofs.Ytfhpdjlppblkcaa
open Go.ChangeShapes Go.WideShapes Go.ChangeAt Go.RowKit
set_option linter.unusedVariables false
set_option linter.unusedSimpArgs false
set_option maxHeartbeats 4000000
set_option maxRecDepth 100000

section
variable {w w1 w2 : World} {c : Nat → Nat} {k N m : Nat} {l : Q3} {f : Int → Q3} {z : Int}
theorem sub_any (H : Mtr w c k N m l f) (hz : Ri z) (hG : Gd l f) (hl : l.In) (hN : N < 100000) (q : Q3) (hq : q.In) : Calls Try.prog 17 #[.pointer (some ⟨m, 0, none⟩), .int .i64 z, q.val] w (LtE w c k (N + 1) m l (.int .i64 (subE (f z) q)) (subF z q f)) := by
  have hb := below3 w (.int .i64 q.b) (.int .i64 q.o) (.int .i64 q.h) 25
  have HNQ := Lib.hid (neg_any q (w.alloc (.cells #[.int .i64 q.b, .int .i64 q.o, .int .i64 q.h] 25)))
  have hq0 := heap_alloc_new w (.cells #[.int .i64 q.b, .int .i64 q.o, .int .i64 q.h] 25)
  have HB := Lib.hid hb
  have HH := Lib.hid H
  have HZ := Lib.hid hz
  unfold LtE
  by_cases hng : q.neg
  · have hf : subE (f z) q = 1 := by unfold subE; rw [if_pos (.inl hng)]
    have hg : subF z q f = f := by unfold subF; rw [hf, if_neg (by omega)]
    rw [hf, hg]
    rw [decide_eq_true hng] at HNQ
    obtain ⟨b, o, h⟩ := q
    unfold Q3.val at HNQ ⊢
    simp only at HNQ HB ⊢
    clear H hb hz hG hq0 hf hg hng hl hq
    go_enter Try.func17, Try.ntmps17
    go_wp2_with fail
    refine HNQ.out.mono ?_
    rintro e w1 ⟨rfl, hb1⟩
    have HB1 := Lib.hid (Below.then HB.out hb1 (Nat.le_refl _))
    clear hb1 HNQ HB
    go_wp2
    go_ret
    exact ⟨rfl, (HH.out.later HB1.out).mono (Nat.le_succ _), Kept.ofBelow HB1.out⟩
  · rw [decide_eq_false hng] at HNQ
    obtain ⟨n1, n2, n3⟩ := not_neg hng
    obtain ⟨⟨_, m1⟩, ⟨_, m2⟩, ⟨_, m3⟩⟩ := hq
    obtain ⟨g1, g2, g3⟩ := hG z
    obtain ⟨i1, i2, i3⟩ := hl
    have t1 := g1.small i1
    have t2 := g2.small i2
    have t3 := g3.small i3
    have HX := Lib.hid (fun (W : World) (hW : Below w.heap.size w W) => HH.out.at_ hz hW)
    have HNR := Lib.hid (fun W => neg_any ((f z).sub q) W)
    have HST := Lib.hid (fun (W : World) (hW : Below w.heap.size w W) => set_any (HH.out.later hW) HZ.out hN ((f z).sub q))
    have HQ0 := Lib.hid hq0
    have HFE : Hid (subF z q f = if subE (f z) q = 0 then upd f z ((f z).sub q) else f) := Lib.hid rfl
    have HSE : Hid (subE (f z) q = if ((f z).sub q).neg then 1 else 0) := Lib.hid (by
      unfold subE
      by_cases h : ((f z).sub q).neg
      · rw [if_pos h, if_pos (.inr h)]
      · rw [if_neg h, if_neg (fun e => e.elim hng h)])
    generalize subF z q f = f' at *
    generalize subE (f z) q = E at *
    clear H hb hz hG hq0 g1 g2 g3 i1 i2 i3 hng
    generalize f z = x at *
    obtain ⟨b, o, h⟩ := q
    obtain ⟨xb, xo, xh⟩ := x
    unfold LtE at HST
    unfold Q3.val at HNQ HX HNR HST ⊢
    unfold Q3.sub at HNR HST HFE HSE
    simp only at HNQ HX HNR HST HFE HSE HB HQ0 n1 n2 n3 m1 m2 m3 t1 t2 t3 ⊢
    have s1 : IntKind.i64.wrap (xb - b) = xb - b := IntWalk.i64_in _ (by omega)
    have s2 : IntKind.i64.wrap (xo - o) = xo - o := IntWalk.i64_in _ (by omega)
    have s3 : IntKind.i64.wrap (xh - h) = xh - h := IntWalk.i64_in _ (by omega)
    clear n1 n2 n3 m1 m2 m3 t1 t2 t3
    go_enter Try.func17, Try.ntmps17
    go_wp2_with fail
    refine HNQ.out.mono ?_
    rintro e w1 ⟨rfl, hb1⟩
    have hb2 := Below.then HB.out hb1 (Nat.le_refl _)
    obtain ⟨mv, c3, hr⟩ := HX.out w1 hb2
    have hq1 := (hb1.block _ (Array.getElem?_eq_some_iff.1 HQ0.out).1).trans HQ0.out
    have hq2 := (Below.heap_alloc w1 (.cells #[.int .i64 xb, .int .i64 xo, .int .i64 xh] 25) _ (Array.getElem?_eq_some_iff.1 hq1).1).trans hq1
    obtain ⟨q0, q1, q2⟩ := cells3 hq2
    obtain ⟨x0, x1, x2⟩ := new3 w1 (.int .i64 xb) (.int .i64 xo) (.int .i64 xh) 25
    have hb3 : Below w.heap.size w (w1.alloc (.cells #[.int .i64 xb, .int .i64 xo, .int .i64 xh] 25)) := hb2.alloc hb2.size _
    have hb4 := hb3.alloc hb3.size (.cells #[.int .i64 (xb - b), .int .i64 (xo - o), .int .i64 (xh - h)] 25)
    have hr0 := heap_alloc_new (w1.alloc (.cells #[.int .i64 xb, .int .i64 xo, .int .i64 xh] 25)) (.cells #[.int .i64 (xb - b), .int .i64 (xo - o), .int .i64 (xh - h)] 25)
    rw [show (w1.alloc (.cells #[.int .i64 xb, .int .i64 xo, .int .i64 xh] 25)).heap.size = w1.heap.size + 1 by simp] at hr0
    have HR0 := Lib.hid hr0
    have HB4 := Lib.hid hb4
    clear hb4 hr0 hb3 hb2 hb1 hq1 hq2 HNQ HX HB HQ0
    go_wp2_with fail
    refine (HNR.out _).mono ?_
    rintro e w5 ⟨rfl, hb5⟩
    have hb6 := Below.then HB4.out hb5 (Nat.le_refl _)
    have hr5 := (hb5.block _ (Array.getElem?_eq_some_iff.1 HR0.out).1).trans HR0.out
    obtain ⟨y0, y1, y2⟩ := cells3 hr5
    have HB6 := Lib.hid hb6
    have HS := Lib.hid (HST.out w5 hb6)
    clear hb5 hb6 hr5 HST HNR HB4 HR0 q0 q1 q2 x0 x1 x2 c3 hr s1 s2 s3
    by_cases hn : Q3.neg ⟨xb - b, xo - o, xh - h⟩
    · have hd : decide (Q3.neg ⟨xb - b, xo - o, xh - h⟩) = true := decide_eq_true hn
      rw [if_pos hn] at HSE
      obtain rfl := HSE.out
      rw [if_neg (by omega)] at HFE
      clear hn HS y0 y1 y2
      go_wp2
      go_ret
      exact ⟨rfl, by rw [HFE.out]; exact (HH.out.later HB6.out).mono (Nat.le_succ _), Kept.ofBelow HB6.out⟩
    · have hd : decide (Q3.neg ⟨xb - b, xo - o, xh - h⟩) = false := decide_eq_false hn
      rw [if_neg hn] at HSE
      obtain rfl := HSE.out
      rw [if_pos rfl] at HFE
      clear hn
      go_wp2_with fail
      refine HS.out.mono ?_
      rintro e w7 ⟨rfl, h1, h2⟩
      have HU := Lib.hid (Mtr.step HB6.out ⟨h1, h2⟩)
      clear HS h1 h2 y0 y1 y2
      go_wp2
      go_ret
      obtain ⟨r1, r2⟩ := HU.out
      exact ⟨rfl, by rw [HFE.out]; exact r1, r2⟩
end
end Go.Proofs.Ytfhpdjlppblkcaa
