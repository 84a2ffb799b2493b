/-
  Contracts of the landed meter's set and Reset. Conditions: fewer than a hundred thousand changes so far.
-/
import Derived.Test.YtfhpdjlppblkcaaQmf
namespace Go.Proofs.Ytfhpdjlppblkcaa
open Go.ChangeShapes Go.WideShapes Go.ChangeAt Go.RowKit
set_option linter.unusedVariables false
set_option linter.unusedSimpArgs false
set_option maxHeartbeats 4000000
set_option maxRecDepth 100000

theorem eq_q3 (a b d x y z : Int) (w : World) : (Op.equalIn 10000 25 (.agg #[.int .i64 a, .int .i64 b, .int .i64 d]) (.agg #[.int .i64 x, .int .i64 y, .int .i64 z])).run Try.prog w = .ok (decide (a = x ∧ b = y ∧ d = z)) w := by
  have u3 := Try.underlying3
  have a3 := Try.isAgg3
  have z3 := Try.sizeOf3
  rw [show (10000 : Nat) = 9999 + 1 from rfl, Op.equalIn]
  simp only [Sem.run_bind, run_underlying Try.underlying25, Result.andThen_ok]
  go_simp
  by_cases h1 : a = x <;> by_cases h2 : b = y <;> by_cases h3 : d = z <;> simp [h1, h2, h3]
theorem mk_map (W : World) : (Instr.makeMap 45 none).run Try.prog W = .ok (.map (some W.heap.size)) (W.alloc (.map #[] 0)) := by
  have h := @run_makeMap Try.prog
  simp [h]
theorem eqm_none (W : World) : (binOp .eql 45 (.map none) (.map none)).run Try.prog W = .ok (.bool true) W := run_eql_map_nil W _ _ _ none Try.underlying45
theorem eqm_some (b : Nat) (W : World) : (binOp .eql 45 (.map (some b)) (.map none)).run Try.prog W = .ok (.bool false) W := run_eql_map_nil W _ _ _ (some b) Try.underlying45
/-- What a call leaves that writes a meter of colour k. -/
def LtE (w : World) (c : Nat → Nat) (k N m : Nat) (l : Q3) (r : Value) (f' : Int → Q3) (e : Ending) (w' : World) : Prop := e = .returned r ∧ Mtr w' (rc c w.heap.size k) k N m l f' ∧ Kept c k w w'
section
variable {w w1 w2 : World} {c : Nat → Nat} {k N m : Nat} {l : Q3} {f : Int → Q3} {z : Int}
theorem Mtr.step (hb : Below w.heap.size w w1) (U : Mtr w2 (rc (rc c w.heap.size k) w1.heap.size k) k N m l f ∧ Kept (rc c w.heap.size k) k w1 w2) : Mtr w2 (rc c w.heap.size k) k N m l f ∧ Kept c k w w2 := by
  obtain ⟨h1, h2⟩ := U
  rw [rc_rc hb.size] at h1
  exact ⟨h1, (Kept.ofBelow hb).then (fun g hg => rc_old hg) h2⟩
theorem Mtr.same (h : Mtr w c k N m l f) (g : Int → Q3) (hf : ∀ p, Ri p → f p = g p) : Mtr w c k N m l g := by
  obtain ⟨h1, mv, h2, h3⟩ := h
  refine ⟨h1, mv, h2, ?_⟩
  rcases h3 with ⟨e, h⟩ | ⟨b, e, hcb, D, h4, h5⟩
  · exact .inl ⟨e, fun p hp => (hf p hp).symm.trans (h p hp)⟩
  · exact .inr ⟨b, e, hcb, D, h4, fun p hp => by rw [← hf p hp]; exact h5 p hp⟩
theorem set_any (H : Mtr w c k N m l f) (hz : Ri z) (hN : N < 100000) (q : Q3) : Calls Try.prog 25 #[.pointer (some ⟨m, 0, none⟩), .int .i64 z, q.val] w (LtE w c k (N + 1) m l (.tuple #[]) (upd f z q)) := by
  obtain ⟨b, o, h⟩ := q
  have hb := below3 w (.int .i64 b) (.int .i64 o) (.int .i64 h) 25
  obtain ⟨hcm, mv, hm, hmv⟩ := H.later hb
  obtain ⟨c0, c1, c2, c3⟩ := meter_cells hm
  have heq := eq_q3 b o h 0 0 0
  have HB := Lib.hid hb
  have HM := Lib.hid hm
  have HCM := Lib.hid hcm
  have HZ := Lib.hid hz
  have HNM : Hid (N < maxLen) := Lib.hid (by unfold maxLen; omega)
  have hq0 := heap_alloc_new w (.cells #[.int .i64 b, .int .i64 o, .int .i64 h] 25)
  have hs : (w.alloc (.cells #[.int .i64 b, .int .i64 o, .int .i64 h] 25)).heap.size = w.heap.size + 1 := by simp
  have hml := H.lt
  unfold LtE
  rcases hmv with ⟨rfl, hf⟩ | ⟨mb, rfl, hcb, D, hown, hD⟩
  · by_cases h0 : b = 0 ∧ o = 0 ∧ h = 0
    · obtain ⟨rfl, rfl, rfl⟩ := h0
      have hdrop := fun W => Maps.drop_nil (w := W) law3 Try.underlying45 (key3 HZ.out) 0
      have HEND : Hid (Mtr (w.alloc (.cells #[.int .i64 0, .int .i64 0, .int .i64 0] 25)) (rc c w.heap.size k) k (N + 1) m l (upd f z Q3.nul)) := Lib.hid (((H.later hb).mono (Nat.le_succ N)).same _ fun p hp => by
        by_cases e : p = z
        · rw [e, upd_at]
          exact hf z hz
        · rw [upd_ne e])
      clear H hb hm hcm hf hz hml hs hq0
      simp only [and_self, decide_true] at heq
      unfold Q3.val
      go_enter Try.func25, Try.ntmps25
      go_wp2
      refine bodyPost_ret (results_none rfl _ _ _) rfl ?_
      exact ⟨rfl, HEND.out, Kept.ofBelow HB.out⟩
    · have heq' : ∀ W, (Op.equalIn 10000 25 (.agg #[.int .i64 b, .int .i64 o, .int .i64 h]) (.agg #[.int .i64 0, .int .i64 0, .int .i64 0])).run Try.prog W = .ok false W := fun W => by rw [heq, decide_eq_false h0]
      have hnil := eqm_none
      have hmk := mk_map (w.alloc (.cells #[.int .i64 b, .int .i64 o, .int .i64 h] 25))
      rw [hs] at hmk
      have k3 : ((w.alloc (.cells #[.int .i64 b, .int .i64 o, .int .i64 h] 25)).alloc (.map #[] 0)).cell? ⟨m, 3, none⟩ = some (.map none) := cell_under c3 _
      have hm2 : ((w.alloc (.cells #[.int .i64 b, .int .i64 o, .int .i64 h] 25)).alloc (.map #[] 0)).heap[m]? = some (.cells (mcs l none) 47 (0, 0)) := (Below.heap_alloc _ _ m (Array.getElem?_eq_some_iff.1 hm).1).trans hm
      have f3 := frozen_of_row _ m 3 _ _ hm2
      obtain ⟨e1, e2, e3, e4⟩ := Mtr.mapped hcm hm
      have hqm : (((w.alloc (.cells #[.int .i64 b, .int .i64 o, .int .i64 h] 25)).alloc (.map #[] 0)).setCell ⟨m, 3, none⟩ (.map (some (w.alloc (.cells #[.int .i64 b, .int .i64 o, .int .i64 h] 25)).heap.size))).heap[w.heap.size]? = some (.cells #[.int .i64 b, .int .i64 o, .int .i64 h] 25 (0, 0)) := by
        rw [Below.heap_setCell _ _ _ _ (show w.heap.size ≠ m from fun e => by omega), Below.heap_alloc _ _ _ (by simp)]
        exact hq0
      have hD := put_fun (q := ⟨b, o, h⟩) (f := f) (D := .map []) ⟨[], rfl⟩ hz (fun p hp => by rw [hf p hp]; rfl)
      rw [hs] at e1 e2 e3 e4 hqm
      rw [rc_rc (Nat.le_succ _)] at e2
      have HE2 := Lib.hid e2
      have HOWN := Lib.hid e3
      have HKM := Lib.hid e4
      have HE1 := Lib.hid e1
      have HQM := Lib.hid hqm
      have HD := Lib.hid hD
      clear H hb hm hcm hz heq h0 hm2 e1 e2 e3 e4 hqm hq0 hD hf hml
      unfold Q3.val
      simp only
      go_enter Try.func25, Try.ntmps25
      go_wp2_with fail
      generalize ((w.alloc (.cells #[.int .i64 b, .int .i64 o, .int .i64 h] 25)).alloc (.map #[] 0)).setCell ⟨m, 3, none⟩ (.map (some (w.heap.size + 1))) = wm at *
      obtain ⟨x0, x1, x2, x3⟩ := meter_cells HE1.out
      obtain ⟨y0, y1, y2⟩ := cells3 HQM.out
      have a3 : ∀ z : Later wm, z.val.cell? ⟨m, 3, none⟩ = some (.map (some (w.heap.size + 1))) := fun z => later_old z x3
      have b0 : ∀ z : Later wm, z.val.cell? ⟨w.heap.size, 0, none⟩ = some (.int .i64 b) := fun z => later_old z y0
      have b1 : ∀ z : Later wm, z.val.cell? ⟨w.heap.size, 1, none⟩ = some (.int .i64 o) := fun z => later_old z y1
      have b2 : ∀ z : Later wm, z.val.cell? ⟨w.heap.size, 2, none⟩ = some (.int .i64 h) := fun z => later_old z y2
      clear c0 c1 c2 c3 k3 f3 heq' hs x0 x1 x2 x3 y0 y1 y2 hnil hmk
      refine wp_region_later_tail 6 (by kernel_rfl) (by kernel_rfl) ?_
      simp only [List.take_succ_cons, List.take_zero, List.drop_succ_cons, List.drop_zero]
      repeat (go_big_quiet_step (fail))
      refine wpQuiet_nil ?_
      rintro w7 ⟨⟨_, hw7⟩, rfl⟩
      have HB7 := Lib.hid hw7
      have hown7 := ownsMap_keep HOWN.out (hw7.block _ HOWN.out.lt)
      clear hw7 a3 b0 b1 b2
      go_wp2_with (first | (at_mapUpdate; refine wpList_mapUpdate_own _ rfl _ _ _ 45 rfl 3 25 law3 Try.underlying45 tk (w.heap.size + 1) 0 _ rfl hown7 (by unfold maxLen; omega) _ _ _ rfl rfl (key3 HZ.out) (.held (Q3.val ⟨b, o, h⟩)) [] rfl ?_; intro w8 hown8 hg8) | go_in)
      go_end0
      obtain ⟨r1, r2⟩ := Mtr.turn (w := w7) (c := rc c w.heap.size k) HCM.out ((HB7.out.block _ (Array.getElem?_eq_some_iff.1 HE1.out).1).trans HE1.out) HE2.out (Nat.lt_of_lt_of_le HOWN.out.lt HB7.out.size) (map_ne HE1.out HOWN.out) hg8 hown8 HD.out
      have hsz := HKM.out.size
      have hs7 := HB7.out.size
      have hsb := HB.out.size
      rw [rc_rc (by omega)] at r1
      exact ⟨rfl, r1.mono (by omega), (Kept.ofBelow HB.out).then (fun g hg => rc_old hg) ((HKM.out.trans (Kept.ofBelow HB7.out)).trans r2)⟩
  · have hbm := map_ne hm hown
    have HCB := Lib.hid hcb
    have HBM := Lib.hid hbm
    by_cases h0 : b = 0 ∧ o = 0 ∧ h = 0
    · obtain ⟨rfl, rfl, rfl⟩ := h0
      have HD := Lib.hid (del_fun hz hD)
      have HL := Lib.hid hown.lt
      simp only [and_self, decide_true] at heq
      clear H hb hm hcm hz hD hs hq0 hcb hbm hml
      unfold Q3.val
      go_enter Try.func25, Try.ntmps25
      go_wp2_with (first | (at_delete; refine wpList_delete_own _ rfl _ _ 45 3 rfl 25 law3 Try.underlying45 _ mb _ D rfl hown _ _ rfl (key3 HZ.out) ?_; intro w2 hown2 hturn2) | go_in)
      refine bodyPost_ret (results_none rfl _ _ _) rfl ?_
      obtain ⟨r1, r2⟩ := Mtr.step HB.out (Mtr.turn HCM.out HM.out HCB.out HL.out HBM.out hturn2.grown hown2 HD.out)
      exact ⟨rfl, r1.mono (Nat.le_succ _), r2⟩
    · have heq' : ∀ W, (Op.equalIn 10000 25 (.agg #[.int .i64 b, .int .i64 o, .int .i64 h]) (.agg #[.int .i64 0, .int .i64 0, .int .i64 0])).run Try.prog W = .ok false W := fun W => by rw [heq, decide_eq_false h0]
      have hnil := eqm_some mb
      have HD := Lib.hid (put_fun (q := ⟨b, o, h⟩) hown.isMap hz hD)
      have HOWN := Lib.hid hown
      have HQM := Lib.hid hq0
      clear H hb hm hcm hz heq h0 hD hs hq0 hcb hbm hml hown
      unfold Q3.val
      simp only
      go_enter Try.func25, Try.ntmps25
      go_wp2_with fail
      generalize w.alloc (.cells #[.int .i64 b, .int .i64 o, .int .i64 h] 25) = wm at *
      obtain ⟨x0, x1, x2, x3⟩ := meter_cells HM.out
      obtain ⟨y0, y1, y2⟩ := cells3 HQM.out
      have a3 : ∀ z : Later wm, z.val.cell? ⟨m, 3, none⟩ = some (.map (some mb)) := fun z => later_old z x3
      have b0 : ∀ z : Later wm, z.val.cell? ⟨w.heap.size, 0, none⟩ = some (.int .i64 b) := fun z => later_old z y0
      have b1 : ∀ z : Later wm, z.val.cell? ⟨w.heap.size, 1, none⟩ = some (.int .i64 o) := fun z => later_old z y1
      have b2 : ∀ z : Later wm, z.val.cell? ⟨w.heap.size, 2, none⟩ = some (.int .i64 h) := fun z => later_old z y2
      clear c0 c1 c2 c3 heq' x0 x1 x2 x3 y0 y1 y2 hnil
      refine wp_region_later_tail 6 (by kernel_rfl) (by kernel_rfl) ?_
      simp only [List.take_succ_cons, List.take_zero, List.drop_succ_cons, List.drop_zero]
      repeat (go_big_quiet_step (fail))
      refine wpQuiet_nil ?_
      rintro w7 ⟨⟨_, hw7⟩, rfl⟩
      have HB7 := Lib.hid hw7
      have hown7 := ownsMap_keep HOWN.out (hw7.block _ HOWN.out.lt)
      clear hw7 a3 b0 b1 b2
      go_wp2_with (first | (at_mapUpdate; refine wpList_mapUpdate_own _ rfl _ _ _ 45 rfl 3 25 law3 Try.underlying45 tk mb N _ rfl hown7 HNM.out _ _ _ rfl rfl (key3 HZ.out) (.held (Q3.val ⟨b, o, h⟩)) [] rfl ?_; intro w8 hown8 hg8) | go_in)
      go_end0
      obtain ⟨r1, r2⟩ := Mtr.turn (w := w7) (c := rc c w.heap.size k) HCM.out ((HB7.out.block _ (Array.getElem?_eq_some_iff.1 HM.out).1).trans HM.out) HCB.out (Nat.lt_of_lt_of_le HOWN.out.lt HB7.out.size) HBM.out hg8 hown8 HD.out
      have hsz := HB.out.size
      have hs7 := HB7.out.size
      rw [rc_rc (by omega)] at r1
      exact ⟨rfl, r1, (Kept.ofBelow HB.out).then (fun g hg => rc_old hg) ((Kept.ofBelow HB7.out).trans r2)⟩
end
end Go.Proofs.Ytfhpdjlppblkcaa
