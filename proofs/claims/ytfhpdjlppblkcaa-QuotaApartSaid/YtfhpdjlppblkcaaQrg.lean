/-
  Contracts of the model's Get and set. Conditions: at most a hundred thousand shares.
-/
import Derived.Test.YtfhpdjlppblkcaaQrm
namespace Go.Proofs.Ytfhpdjlppblkcaa
open Go.ChangeShapes Go.WideShapes Go.ChangeAt Go.RowKit
set_option linter.unusedVariables false
set_option linter.unusedSimpArgs false
set_option maxHeartbeats 4000000
set_option maxRecDepth 100000

theorem set3 {w : World} {b : Nat} {a0 a1 a2 : Value} {t : TypeId} (h : w.heap[b]? = some (.cells #[a0, a1, a2] t (0, 0))) (v0 v1 v2 : Value) :
    (((w.setCell ⟨b, 0, none⟩ v0).setCell ⟨b, 1, none⟩ v1).setCell ⟨b, 2, none⟩ v2).heap[b]? = some (.cells #[v0, v1, v2] t (0, 0)) :=
  heap_setCell_same _ b 2 _ _ v2 (heap_setCell_same _ b 1 _ _ v1 (heap_setCell_same w b 0 _ _ v0 h))
theorem below_set3 {w w1 : World} {b : Nat} (h : Below w.heap.size w w1) (hb : w.heap.size ≤ b) (v0 v1 v2 : Value) : Below w.heap.size w (((w1.setCell ⟨b, 0, none⟩ v0).setCell ⟨b, 1, none⟩ v1).setCell ⟨b, 2, none⟩ v2) :=
  ((h.setCell (p := ⟨b, 0, none⟩) hb v0).setCell (p := ⟨b, 1, none⟩) hb v1).setCell (p := ⟨b, 2, none⟩) hb v2
section
variable {w w' w1 w2 : World} {c c' : Nat → Nat} {j k m N : Nat} {l : Q3} {S S' : List Sh} {z : Int} {q : Q3}
theorem getR_any (H : Mmr w m l S) (z : Int) : Calls Try.prog 11 #[.pointer (some ⟨m, 0, none⟩), .int .i64 z] w fun e w' => e = .returned (getS z S).val ∧ Below w.heap.size w w' := by
  have hb := below3 w (.int .i64 0) (.int .i64 0) (.int .i64 0) 25
  have hx0 := heap_alloc_new w (.cells #[.int .i64 0, .int .i64 0, .int .i64 0] 25)
  obtain ⟨A, n, cap, hm, hk⟩ := H.go hb
  obtain ⟨c0, c1, c2, c3⟩ := meter_cells hm
  have HK := Lib.hid hk
  have HB := Lib.hid hb
  have HX := Lib.hid hx0
  have hcap := hk.cap
  have hsm := hk.small
  have hlen := hk.len
  unfold maxLen at hsm
  clear hb hx0 hk hm H
  go_enter Try.func11, Try.ntmps11
  go_wp2
  generalize w.alloc (.cells #[.int .i64 0, .int .i64 0, .int .i64 0] 25) = wa at *
  obtain ⟨k0, k1, k2⟩ := cells3 HX.out
  have f0 := frozen_of_row wa w.heap.size 0 _ _ HX.out
  have f1 := frozen_of_row wa w.heap.size 1 _ _ HX.out
  have f2 := frozen_of_row wa w.heap.size 2 _ _ HX.out
  go_loopw [5] (fun iv wr => ∃ i : Nat, i ≤ n ∧ iv = .int .i64 i ∧ wr = wa ∧ Hid ((S.take i).find? (fun x => decide (x.p = z)) = none)) (fun iv _ => n - (intOf iv).toNat)
  case atStart => exact ⟨0, Nat.zero_le _, rfl, rfl, Lib.hid rfl⟩
  case round =>
    obtain ⟨i, hi, rfl, rfl, hh⟩ := hrel
    by_cases hin : i < n
    · obtain ⟨b, ob, x, hx, rfl, hb, g0, g1, g2, g3⟩ := HK.out.sh hin
      have hi0' : (0 : Int) ≤ (i : Int) := by omega
      have hi1 : (i : Int) < (n : Int) := by omega
      have hd : decide ((i : Int) < (n : Int)) = true := decide_eq_true hi1
      have HS := Lib.hid (find_step (z := z) hx hh.out)
      clear hx hb hh
      by_cases he : x.p = z
      · have he' : (x.p == z) = true := by simpa using he
        have HN : Hid (getS z S = x.q) := Lib.hid (HS.out.2 he)
        obtain ⟨xp, xb, xo, xh⟩ := x
        simp only at g0 g1 g2 g3 he' HN
        have HW3 := Lib.hid (set3 HX.out (.int .i64 xb) (.int .i64 xo) (.int .i64 xh))
        have HB3 := Lib.hid (below_set3 HB.out (Nat.le_refl _) (.int .i64 xb) (.int .i64 xo) (.int .i64 xh))
        clear he HS
        go_wp2
        clear k0 k1 k2 f0 f1 f2 g0 g1 g2 g3
        generalize ((wr.setCell _ _).setCell _ _).setCell _ _ = w4 at *
        obtain ⟨k0, k1, k2⟩ := cells3 HW3.out
        refine bodyPost_ret (v := .agg #[.int .i64 xb, .int .i64 xo, .int .i64 xh]) (by simp [results, Try.results11, go_sem, k0, k1, k2]) rfl ?_
        rw [HN.out]
        exact ⟨rfl, HB3.out⟩
      · have he' : (x.p == z) = false := by simpa using he
        have HN := Lib.hid (HS.out.1 he)
        clear he HS
        go_wp2
        go_roundw
        case rel => exact ⟨i + 1, by omega, by go_num, by first | rfl | trivial, HN⟩
        case measure => simp [intOf]; omega
    · obtain rfl : i = n := by omega
      have HN : Hid (getS z S = Q3.nul) := Lib.hid (find_end (by omega) hh.out)
      have hd : decide ((i : Int) < (i : Int)) = false := by simp
      have HW3 := Lib.hid (set3 HX.out (.int .i64 0) (.int .i64 0) (.int .i64 0))
      have HB3 := Lib.hid (below_set3 HB.out (Nat.le_refl _) (.int .i64 0) (.int .i64 0) (.int .i64 0))
      clear hh
      go_wp2
      clear k0 k1 k2 f0 f1 f2
      generalize ((wr.setCell _ _).setCell _ _).setCell _ _ = w4 at *
      obtain ⟨k0, k1, k2⟩ := cells3 HW3.out
      refine bodyPost_ret (v := .agg #[.int .i64 0, .int .i64 0, .int .i64 0]) (by simp [results, Try.results11, go_sem, k0, k1, k2]) rfl ?_
      rw [HN.out]
      exact ⟨rfl, HB3.out⟩
theorem setR_any (H : Mmb w c k m l S) (hn : S.length ≤ 100000) (z : Int) (q : Q3) : Calls Try.prog 26 #[.pointer (some ⟨m, 0, none⟩), .int .i64 z, q.val] w (MtE w c k m l (.tuple #[]) (setS z q S)) := by
  obtain ⟨i0, hi0, hz0, hz1, hz2⟩ := info_parts infoS
  have HM := Lib.hid H
  have hb := below3 w (.int .i64 q.b) (.int .i64 q.o) (.int .i64 q.h) 25
  have hx0 := heap_alloc_new w (.cells #[.int .i64 q.b, .int .i64 q.o, .int .i64 q.h] 25)
  obtain ⟨A, n, cap, hm, hk⟩ := H.r.go hb
  have HC := Lib.hid hm
  have HK := Lib.hid hk
  have HB := Lib.hid hb
  have HX := Lib.hid hx0
  have hcap := hk.cap
  have hsm := hk.small
  have hlen := hk.len
  unfold maxLen at hsm
  unfold MtE
  obtain ⟨c0, c1, c2, c3⟩ := meter_cells hm
  clear hb hx0 hk hm H
  obtain ⟨qb, qo, qh⟩ := q
  unfold Q3.val
  simp only at HB HX HC HK c0 c1 c2 c3 ⊢
  go_enter Try.func26, Try.ntmps26
  go_wp2
  generalize w.alloc (.cells #[.int .i64 qb, .int .i64 qo, .int .i64 qh] 25) = wa at *
  clear c0 c1 c2 c3
  go_loopw [6, 7] (fun lv iv wr => ∃ i : Nat, i ≤ n ∧ iv = .int .i64 i ∧ Hid (OwnK sh4 51 wr wa.heap.size lv (outS z (S.take i)) ∧ Below wa.heap.size wa wr)) (fun _ iv _ => n - (intOf iv).toNat)
  case atStart => exact ⟨0, Nat.zero_le _, rfl, Lib.hid ⟨OwnK.nil _ _ _ _, Below.refl _ _⟩⟩
  case round =>
    obtain ⟨i, hi, rfl, hh⟩ := hrel
    obtain ⟨hor, hbr⟩ := hh.out
    obtain ⟨A1, n1, c1', rfl, hx1⟩ := hor.shape
    have hcr := (hbr.block m (Array.getElem?_eq_some_iff.1 HC.out).1).trans HC.out
    obtain ⟨c0, c1, c2, c3⟩ := meter_cells hcr
    have HOR := Lib.hid hor
    have HBR := Lib.hid hbr
    have HLE : Hid ((outS z (S.take i)).length ≤ 100000) := Lib.hid (by
      have h1 := List.length_filter_le (fun x : Sh => decide (¬ x.p = z)) (S.take i)
      have h2 := List.length_take (i := i) (l := S)
      unfold outS
      omega)
    by_cases hin : i < n
    · obtain ⟨b, ob, x, hx, rfl, hb, g0, g1, g2, g3⟩ := (HK.out.go hbr).sh hin
      have hi0' : (0 : Int) ≤ (i : Int) := by omega
      have hi1 : (i : Int) < (n : Int) := by omega
      have hd : decide ((i : Int) < (n : Int)) = true := decide_eq_true hi1
      have HST := Lib.hid (out_step (z := z) hx)
      have HNW : Hid (Kws sh4 (wr.alloc (.cells #[.int .i64 x.p, .int .i64 x.q.b, .int .i64 x.q.o, .int .i64 x.q.h] 51)) (wr.heap.size + 1) (some ⟨wr.heap.size, 0, none⟩) 1 1 [x]) := Lib.hid (Kws.new wr [x] _ _ 1 rfl rfl (by unfold maxLen; omega))
      by_cases he : x.p = z
      · have he' : (x.p != z) = false := by simpa using he
        rw [if_pos he, List.append_nil] at HST
        clear hh hor hbr hx1 hx hb he hcr HNW
        go_wp2
        go_roundw
        case rel => exact ⟨i + 1, by omega, by go_num, Lib.hid ⟨by rw [HST.out]; exact HOR.out, HBR.out⟩⟩
        case measure => simp [intOf]; omega
      · have he' : (x.p != z) = true := by simpa using he
        rw [if_neg he] at HST
        clear hh hor hbr hx1 hx hb he hcr
        go_wp2_with (at_builtin; go_must (refine wpList_appK _ rfl (.tmp 27) (.tmp 35) 29 rfl Try.underlying29 hi0 hz0 rfl hz1 (by omega) (HOR.out.alloc _) rfl HNW.out rfl (by have := HLE.out; omega) (by have := HBR.out.size; simp; omega) ?_); intro v3 w3 ho3 hb3 hg3; obtain ⟨A3, n3, c3, rfl, hx3⟩ := ho3.shape)
        have HO3 := Lib.hid ho3
        have HB3 := Lib.hid ((HBR.out.alloc HBR.out.size (.cells #[.int .i64 x.p, .int .i64 x.q.b, .int .i64 x.q.o, .int .i64 x.q.h] 51)).trans hb3)
        clear ho3 hb3 hg3 hx3 HNW
        go_wp2
        go_roundw
        case rel => exact ⟨i + 1, by omega, by go_num, Lib.hid ⟨by rw [HST.out]; exact HO3.out, HB3.out⟩⟩
        case measure => simp [intOf]; omega
    · obtain rfl : i = n := by omega
      have HE : Hid (outS z (S.take i) = outS z S) := Lib.hid (by rw [List.take_of_length_le (by omega)])
      have hd : decide ((i : Int) < (i : Int)) = false := by simp
      have hxr := (hbr.block _ (Array.getElem?_eq_some_iff.1 HX.out).1).trans HX.out
      obtain ⟨q0, q1, q2⟩ := cells3 hxr
      have HNW : Hid (Kws sh4 (wr.alloc (.cells #[.int .i64 z, .int .i64 qb, .int .i64 qo, .int .i64 qh] 51)) (wr.heap.size + 1) (some ⟨wr.heap.size, 0, none⟩) 1 1 [Sh.mk z (Q3.mk qb qo qh)]) := Lib.hid (Kws.new wr [Sh.mk z (Q3.mk qb qo qh)] _ _ 1 rfl rfl (by unfold maxLen; omega))
      have HFX : Hid (∀ W, Below wa.heap.size wa W → W.cell? ⟨m, 3, none⟩ = some (.slice A i cap) ∧ W.frozen? ⟨m, 3, none⟩ = false) := Lib.hid fun W hW => by
        have h3 := (hW.block m (Array.getElem?_eq_some_iff.1 HC.out).1).trans HC.out
        exact ⟨(meter_cells h3).2.2.2, frozen_of_row W m 3 _ _ h3⟩
      have HCR := Lib.hid hcr
      clear hh hor hbr hx1 hxr hcr
      go_wp2_with (at_builtin; go_must (refine wpList_appK _ rfl (.tmp 38) (.tmp 42) 29 rfl Try.underlying29 hi0 hz0 rfl hz1 (by omega) (HOR.out.alloc _) rfl HNW.out rfl (by have := HLE.out; omega) (by have := HBR.out.size; simp; omega) ?_); intro v3 w3 ho3 hb3 hg3; obtain ⟨A3, n3, c3', rfl, hx3⟩ := ho3.shape; obtain ⟨d3, f3⟩ := HFX.out w3 ((HBR.out.alloc HBR.out.size (.cells #[.int .i64 z, .int .i64 qb, .int .i64 qo, .int .i64 qh] 51)).trans hb3))
      have hb4 : Below wa.heap.size wa w3 := (HBR.out.alloc HBR.out.size (.cells #[.int .i64 z, .int .i64 qb, .int .i64 qo, .int .i64 qh] 51)).trans hb3
      have HB4 := Lib.hid (Below.then HB.out hb4 (Nat.le_refl _))
      rw [HE.out] at ho3
      have HPU := Lib.hid (Mmb.put HM.out HB4.out (ho3.down HB.out.size))
      clear ho3 hb3 hg3 hx3 HNW hb4
      go_wp2
      go_end0
      obtain ⟨r1, r2⟩ := HPU.out
      exact ⟨rfl, r1, r2⟩
end
end Go.Proofs.Ytfhpdjlppblkcaa
