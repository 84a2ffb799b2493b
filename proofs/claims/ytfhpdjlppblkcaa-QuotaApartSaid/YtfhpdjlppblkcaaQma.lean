/-
  Contracts of the landed meter's Add, Sub and Reset, and of a nil meter's. Conditions: what each plugin has lies within the limits; fewer than a hundred thousand changes so far.
-/
import Derived.Test.YtfhpdjlppblkcaaQms
namespace Go.Proofs.Ytfhpdjlppblkcaa
open Go.ChangeShapes Go.WideShapes Go.ChangeAt Go.RowKit
set_option linter.unusedVariables false
set_option linter.unusedSimpArgs false
set_option maxHeartbeats 4000000
set_option maxRecDepth 100000

theorem add_nil (w : World) (z : Int) (q : Q3) : Calls Try.prog 15 #[.pointer none, .int .i64 z, q.val] w fun e w' => e = .returned (.int .i64 1) ∧ Below w.heap.size w w' := by
  have HF := Lib.hid (fits_nil (w.alloc (.cells #[.int .i64 q.b, .int .i64 q.o, .int .i64 q.h] 25)) z q)
  have HB := Lib.hid (below3 w (.int .i64 q.b) (.int .i64 q.o) (.int .i64 q.h) 25)
  obtain ⟨b, o, h⟩ := q
  unfold Q3.val at *
  simp only at *
  go_enter Try.func15, Try.ntmps15
  go_wp2_with fail
  refine HF.out.mono ?_
  rintro e w1 ⟨rfl, hb⟩
  have HB1 := Lib.hid (Below.then HB.out hb (Nat.le_refl _))
  clear HF hb
  go_wp2
  go_ret
  exact ⟨rfl, HB1.out⟩
theorem sub_nil (w : World) (z : Int) (q : Q3) : Calls Try.prog 17 #[.pointer none, .int .i64 z, q.val] w fun e w' => e = .returned (.int .i64 1) ∧ Below w.heap.size w w' := by
  have HB := Lib.hid (below3 w (.int .i64 q.b) (.int .i64 q.o) (.int .i64 q.h) 25)
  obtain ⟨b, o, h⟩ := q
  unfold Q3.val at *
  simp only at *
  go_enter Try.func17, Try.ntmps17
  go_wp2
  go_ret
  exact ⟨rfl, HB.out⟩
theorem reset_nil (w : World) (z : Int) : Calls Try.prog 19 #[.pointer none, .int .i64 z] w fun e w' => e = .returned (.tuple #[]) ∧ w = w' := by
  go_enter Try.func19, Try.ntmps19
  go_wp2
  go_end0
  exact ⟨rfl, rfl⟩
section
variable {w w1 w2 : World} {c : Nat → Nat} {k N m : Nat} {l : Q3} {f : Int → Q3} {z : Int}
theorem Mtr.at_ (H : Mtr w c k N m l f) (hz : Ri z) {W : World} (hW : Below w.heap.size w W) : ∃ mv, W.cell? ⟨m, 3, none⟩ = some (.map mv) ∧ (Instr.lookup 45 (.map mv) (.int .i64 z) false).run Try.prog W = .ok (f z).val W := by
  obtain ⟨_, mv, h2, h3⟩ := H.go hW
  exact ⟨mv, (meter_cells h2).2.2.2, h3.look hz⟩
theorem reset_any (H : Mtr w c k N m l f) (hz : Ri z) : Calls Try.prog 19 #[.pointer (some ⟨m, 0, none⟩), .int .i64 z] w (LtE w c k N m l (.tuple #[]) (resF z f)) := by
  obtain ⟨hcm, mv, hm, hmv⟩ := id H
  obtain ⟨c0, c1, c2, c3⟩ := meter_cells hm
  have HM := Lib.hid hm
  have HCM := Lib.hid hcm
  have HZ := Lib.hid hz
  unfold LtE
  rcases hmv with ⟨rfl, hf⟩ | ⟨mb, rfl, hcb, D, hown, hD⟩
  · have hdrop := fun W => Maps.drop_nil (w := W) law3 Try.underlying45 (key3 HZ.out) 0
    have HEND : Hid (Mtr w (rc c w.heap.size k) k N m l (resF z f)) := Lib.hid ((H.later (Below.refl _ _)).same _ fun p hp => by
      unfold resF
      by_cases e : p = z
      · rw [e, upd_at]
        exact hf z hz
      · rw [upd_ne e])
    clear H hm hcm hf hz
    go_enter Try.func19, Try.ntmps19
    go_wp2
    go_end0
    exact ⟨rfl, HEND.out, Kept.refl⟩
  · have HBM := Lib.hid (map_ne hm hown)
    have HCB := Lib.hid hcb
    have HD := Lib.hid (del_fun hz hD)
    have HL := Lib.hid hown.lt
    clear H hm hcm hz hD hcb
    go_enter Try.func19, Try.ntmps19
    go_wp2_with (first | (at_delete; refine wpList_delete_own _ rfl _ _ 45 3 rfl 25 law3 Try.underlying45 _ mb _ D rfl hown _ _ rfl (key3 HZ.out) ?_; intro w2 hown2 hturn2) | go_in)
    go_end0
    obtain ⟨r1, r2⟩ := Mtr.turn HCM.out HM.out HCB.out HL.out HBM.out hturn2.grown hown2 HD.out
    exact ⟨rfl, r1, r2⟩
theorem add_any (H : Mtr w c k N m l f) (hz : Ri z) (hG : Gd l f) (hl : l.In) (hN : N < 100000) (q : Q3) : Calls Try.prog 15 #[.pointer (some ⟨m, 0, none⟩), .int .i64 z, q.val] w (LtE w c k (N + 1) m l (.int .i64 (fitE l (f z) q)) (addF l z q f)) := by
  have hb := below3 w (.int .i64 q.b) (.int .i64 q.o) (.int .i64 q.h) 25
  have HF := Lib.hid (fits_any (H.go hb) hz hG hl q)
  have hq0 := heap_alloc_new w (.cells #[.int .i64 q.b, .int .i64 q.o, .int .i64 q.h] 25)
  have HB := Lib.hid hb
  have HH := Lib.hid H
  have HZ := Lib.hid hz
  have HFE : Hid (addF l z q f = if fitE l (f z) q = 0 then upd f z ((f z).add q) else f) := Lib.hid rfl
  have HSM : Hid (fitE l (f z) q = 0 → (0 ≤ (f z).b + q.b ∧ (f z).b + q.b ≤ 9223372036854775807) ∧ (0 ≤ (f z).o + q.o ∧ (f z).o + q.o ≤ 9223372036854775807) ∧ (0 ≤ (f z).h + q.h ∧ (f z).h + q.h ≤ 9223372036854775807)) := Lib.hid fun e => by
    have h1 := (hG.add (p := z) (q := q)) z
    unfold addF at h1
    rw [if_pos e, upd_at] at h1
    obtain ⟨g1, g2, g3⟩ := h1
    obtain ⟨i1, i2, i3⟩ := hl
    exact ⟨g1.small i1, g2.small i2, g3.small i3⟩
  generalize addF l z q f = f' at *
  generalize fitE l (f z) q = E at *
  unfold LtE
  have HQ : Hid (q = q) := Lib.hid rfl
  by_cases hE : E = 0
  · subst hE
    rw [if_pos rfl] at HFE
    have HQ0 := Lib.hid hq0
    obtain ⟨b, o, h⟩ := q
    have hs := HSM.out rfl
    have hx := fun (W : World) (hW : Below w.heap.size w W) => HH.out.at_ hz hW
    have HX := Lib.hid hx
    clear hx H hb hz hG hq0 HQ HSM
    generalize hfz : f z = x at *
    have HFZ := Lib.hid hfz
    clear hfz
    obtain ⟨xb, xo, xh⟩ := x
    unfold Q3.val at HF HX ⊢
    unfold Q3.add at HFE
    simp only at HF HX HFE hs HB HQ0 ⊢
    have s1 : IntKind.i64.wrap (xb + b) = xb + b := IntWalk.i64_in _ (by omega)
    have s2 : IntKind.i64.wrap (xo + o) = xo + o := IntWalk.i64_in _ (by omega)
    have s3 : IntKind.i64.wrap (xh + h) = xh + h := IntWalk.i64_in _ (by omega)
    clear hs
    go_enter Try.func15, Try.ntmps15
    go_wp2_with fail
    refine HF.out.mono ?_
    rintro e w1 ⟨rfl, hb1⟩
    have hb2 := Below.then HB.out hb1 (Nat.le_refl _)
    obtain ⟨mv, c3, hr⟩ := HX.out w1 hb2
    have hq1 := (hb1.block _ (Array.getElem?_eq_some_iff.1 HQ0.out).1).trans HQ0.out
    have hq2 := (Below.heap_alloc w1 (.cells #[.int .i64 xb, .int .i64 xo, .int .i64 xh] 25) _ (Array.getElem?_eq_some_iff.1 hq1).1).trans hq1
    obtain ⟨q0, q1, q2⟩ := cells3 hq2
    obtain ⟨x0, x1, x2⟩ := new3 w1 (.int .i64 xb) (.int .i64 xo) (.int .i64 xh) 25
    have hb3 : Below w.heap.size w (w1.alloc (.cells #[.int .i64 xb, .int .i64 xo, .int .i64 xh] 25)) := hb2.alloc hb2.size _
    have HS := Lib.hid (set_any (HH.out.later hb3) HZ.out hN ⟨xb + b, xo + o, xh + h⟩)
    unfold LtE Q3.val at HS
    simp only at HS
    have HB3 := Lib.hid hb3
    clear hb3 hb2 hb1 hq1 hq2 HF HX HB HQ0
    go_wp2_with fail
    refine HS.out.mono ?_
    rintro e w4 ⟨rfl, h1, h2⟩
    have HU := Lib.hid (Mtr.step HB3.out ⟨h1, h2⟩)
    clear HS h1 h2 q0 q1 q2 x0 x1 x2 c3 hr s1 s2 s3
    go_wp2
    go_ret
    obtain ⟨r1, r2⟩ := HU.out
    exact ⟨rfl, by rw [HFE.out]; exact r1, r2⟩
  · rw [if_neg hE] at HFE
    have hE' : (E != 0) = true := by simpa using hE
    have HN := Lib.hid hE
    obtain ⟨b, o, h⟩ := q
    unfold Q3.val at HF ⊢
    simp only at HF HB ⊢
    clear H hb hz hG hq0 HQ HSM hE
    go_enter Try.func15, Try.ntmps15
    go_wp2_with fail
    refine HF.out.mono ?_
    rintro e w1 ⟨rfl, hb1⟩
    have HB1 := Lib.hid (Below.then HB.out hb1 (Nat.le_refl _))
    clear hb1 HF HB
    go_wp2
    go_ret
    exact ⟨rfl, by rw [HFE.out]; exact (HH.out.later HB1.out).mono (Nat.le_succ _), Kept.ofBelow HB1.out⟩
end
end Go.Proofs.Ytfhpdjlppblkcaa
