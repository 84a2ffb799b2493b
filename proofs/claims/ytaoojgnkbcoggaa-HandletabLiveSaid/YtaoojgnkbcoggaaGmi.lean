/-
  Contracts of the model's Of, Issue and End. Conditions: at most a million free slots.
-/
import Derived.Test.YtaoojgnkbcoggaaGmo
namespace Go.Proofs.Ytaoojgnkbcoggaa
open Go.ChangeShapes Go.WideShapes Go.RowKit
set_option linter.unusedVariables false
set_option maxHeartbeats 4000000
set_option maxRecDepth 100000

theorem Kws.bool_at {w : World} {B n c : Nat} {A : Option Addr} {l : List Bool} (h : Kws bool1 w B A n c l) {i : Nat} (hi : i < n) :
    ∃ b o x, l[i]? = some x ∧ A = some ⟨b, o, none⟩ ∧ b < B ∧ w.cell? ⟨b, o + i, none⟩ = some (.bool x) := by
  obtain ⟨b, o, x, h1, h2, h3, h4⟩ := h.at_ hi
  have h5 := h4 0 _ rfl
  rw [show bool1.k = 1 from rfl, Nat.mul_one, Nat.add_zero] at h5
  exact ⟨b, o, x, h1, h2, h3, h5⟩
section
variable {w w' : World} {c c' : Nat → Nat} {k j m i : Nat} {s : Gs}
/-- What lies in the model's block. -/
theorem Mgs.cells (h : Mgs w c k m s) : ∃ A1 n1 c1 A2 n2 c2 A3 n3 c3, w.cell? ⟨m, 0, none⟩ = some (.int .i64 s.first) ∧ w.cell? ⟨m, 1, none⟩ = some (.slice A1 n1 c1) ∧ w.cell? ⟨m, 2, none⟩ = some (.slice A2 n2 c2) ∧ w.cell? ⟨m, 3, none⟩ = some (.slice A3 n3 c3) ∧ w.cell? ⟨m, 4, none⟩ = some (.int .i64 s.gone) ∧
    Kws int1 w w.heap.size A1 n1 c1 s.gen ∧ Kws bool1 w w.heap.size A2 n2 c2 s.live ∧ Kws int1 w w.heap.size A3 n3 c3 s.free := by
  obtain ⟨v1, v2, v3, h0, h1, h2, h3, _⟩ := h.ex
  obtain ⟨A1, n1, c1, rfl, k1⟩ := h1.shape
  obtain ⟨A2, n2, c2, rfl, k2⟩ := h2.shape
  obtain ⟨A3, n3, c3, rfl, k3⟩ := h3.shape
  exact ⟨A1, n1, c1, A2, n2, c2, A3, n3, c3, cell_of_row w m 0 _ _ _ h0, cell_of_row w m 1 _ _ _ h0, cell_of_row w m 2 _ _ _ h0, cell_of_row w m 3 _ _ _ h0, cell_of_row w m 4 _ _ _ h0, k1, k2, k3⟩
theorem ob_none {v : Value} {m : Nat} (h : ∀ g, v.ownBlock = some g → g ≠ m) : v.ownBlock = none ∨ v.ownBlock ≠ some m := by
  rcases hb : v.ownBlock with _ | g
  · exact .inl rfl
  · exact .inr fun e => h g hb (Option.some.inj e)
/-- A slot's generation is written. -/
theorem Mgs.genAt (h : Mgs w c k m s) (hi : i < s.gen.length) (y : Int) : ∃ g cap, w.cell? ⟨m, 1, none⟩ = some (.slice (some ⟨g, 0, none⟩) s.gen.length cap) ∧ s.gen.length ≤ cap ∧ cap ≤ maxLen ∧ w.cell? ⟨g, i, none⟩ = some (.int .i64 (s.gen.getD i 0)) ∧ w.frozen? ⟨g, i, none⟩ = false ∧
    Mgs (w.setCell ⟨g, i, none⟩ (.int .i64 y)) c k m { s with gen := s.gen.set i y } ∧ Kept c k w (w.setCell ⟨g, i, none⟩ (.int .i64 y)) := by
  obtain ⟨v1, v2, v3, h0, h1, h2, h3, h4, h5, h6, h7⟩ := h.ex
  obtain ⟨g, cap, cur, R, rfl, _, _, _, hlc, hcm, _⟩ := h1.opn (by omega)
  have hx : s.gen[i]? = some (s.gen.getD i 0) := by rw [List.getD_eq_getElem?_getD, List.getElem?_eq_getElem hi]; rfl
  obtain ⟨q1, q2, q3⟩ := h1.int_set hx y
  have hs := run_setAt w g i (.int .i64 y)
  have h5g := h5 g rfl
  refine ⟨g, cap, cell_of_row w m 1 _ _ _ h0, hlc, hcm, q1, q2, ⟨_, v2, v3, (hs.block m (Array.getElem?_eq_some_iff.1 h0).1 (fun e => h5g.2.1 (Option.some.inj e).symm)).trans h0, q3, OwnK.kept h2 hs (ob_none fun q hq e => h5g.2.2.1 (e ▸ hq)), OwnK.kept h3 hs (ob_none fun q hq e => h5g.2.2.2 (e ▸ hq)), h4, h5, h6, h7⟩, Kept.ofGrown hs (fun q e => by cases e; exact h5g.1)⟩
/-- A slot's mark is written. -/
theorem Mgs.liveAt (h : Mgs w c k m s) {b : Bool} (hb : s.live[i]? = some b) (y : Bool) : ∃ g cap, w.cell? ⟨m, 2, none⟩ = some (.slice (some ⟨g, 0, none⟩) s.live.length cap) ∧ s.live.length ≤ cap ∧ cap ≤ maxLen ∧ w.cell? ⟨g, i, none⟩ = some (.bool b) ∧ w.frozen? ⟨g, i, none⟩ = false ∧
    Mgs (w.setCell ⟨g, i, none⟩ (.bool y)) c k m { s with live := s.live.set i y } ∧ Kept c k w (w.setCell ⟨g, i, none⟩ (.bool y)) := by
  obtain ⟨v1, v2, v3, h0, h1, h2, h3, h4, h5, h6, h7⟩ := h.ex
  have hi : i < s.live.length := (List.getElem?_eq_some_iff.1 hb).1
  obtain ⟨g, cap, cur, R, rfl, _, _, _, hlc, hcm, _⟩ := h2.opn (by omega)
  obtain ⟨g', cap', e, _, _, q1, q2, q3⟩ := h2.store (i := i) (j := 0) (y := y) (u' := .bool y) hb rfl rfl
  cases e
  rw [show bool1.k = 1 from rfl, Nat.mul_one, Nat.add_zero] at q1 q2 q3
  have hs := run_setAt w g i (.bool y)
  have h6g := h6 g rfl
  refine ⟨g, cap, cell_of_row w m 2 _ _ _ h0, hlc, hcm, q1, q2, ⟨v1, _, v3, (hs.block m (Array.getElem?_eq_some_iff.1 h0).1 (fun e => h6g.2.1 (Option.some.inj e).symm)).trans h0, OwnK.kept h1 hs (ob_none fun q hq e => (h5 q hq).2.2.1 (by rw [e]; rfl)), q3, OwnK.kept h3 hs (ob_none fun q hq e => h6g.2.2 (e ▸ hq)), h4, h5, h6, h7⟩, Kept.ofGrown hs (fun q e => by cases e; exact h6g.1)⟩
/-- The free slots are laid anew. -/
theorem Mgs.freeAt (h : Mgs w c k m s) {w2 : World} {v : Value} {fs : List Int} (hb : Below w.heap.size w w2) (ho : OwnK int1 3 w2 w.heap.size v fs) :
    w2.frozen? ⟨m, 3, none⟩ = false ∧ Mgs (w2.setCell ⟨m, 3, none⟩ v) (rc c w.heap.size k) k m { s with free := fs } ∧ Kept c k w (w2.setCell ⟨m, 3, none⟩ v) := by
  obtain ⟨v1, v2, v3, h0, h1, h2, h3, h4, h5, h6, h7⟩ := h.ex
  have hm := h.lt
  have e2 := (hb.block m hm).trans h0
  have hs := run_setAt w2 m 3 v
  refine ⟨frozen_of_row w2 m 3 _ _ e2, ⟨v1, v2, v, heap_setCell_same w2 m 3 _ _ _ e2, OwnK.kept (h1.below hb) hs (ob_none fun q hq => (h5 q hq).2.1), OwnK.kept (h2.below hb) hs (ob_none fun q hq => (h6 q hq).2.1), OwnK.kept (ho.down (Nat.zero_le _)) hs (ob_none fun q hq => by have := (ho.ge hq).1; omega), (rc_old hm).trans h4,
    fun q hq => ⟨(rc_old (h1.ge hq).2).trans (h5 q hq).1, (h5 q hq).2.1, (h5 q hq).2.2.1, fun e => by have := (ho.ge e).1; have := (h1.ge hq).2; omega⟩, fun q hq => ⟨(rc_old (h2.ge hq).2).trans (h6 q hq).1, (h6 q hq).2.1, fun e => by have := (ho.ge e).1; have := (h2.ge hq).2; omega⟩,
    fun q hq => ⟨rc_new (ho.ge hq).1, by have := (ho.ge hq).1; omega⟩⟩, (Kept.ofBelow hb).trans (Kept.ofGrown hs (fun q e => by cases e; exact h4))⟩
/-- The number of retired slots is written. -/
theorem Mgs.goneAt (h : Mgs w c k m s) (y : Int) : w.frozen? ⟨m, 4, none⟩ = false ∧ Mgs (w.setCell ⟨m, 4, none⟩ (.int .i64 y)) c k m { s with gone := y } ∧ Kept c k w (w.setCell ⟨m, 4, none⟩ (.int .i64 y)) := by
  obtain ⟨v1, v2, v3, h0, h1, h2, h3, h4, h5, h6, h7⟩ := h.ex
  have hs := run_setAt w m 4 (.int .i64 y)
  exact ⟨frozen_of_row w m 4 _ _ h0, ⟨v1, v2, v3, heap_setCell_same w m 4 _ _ _ h0, OwnK.kept h1 hs (ob_none fun q hq => (h5 q hq).2.1), OwnK.kept h2 hs (ob_none fun q hq => (h6 q hq).2.1), OwnK.kept h3 hs (ob_none fun q hq => (h7 q hq).2), h4, h5, h6, h7⟩, Kept.ofGrown hs (fun q e => by cases e; exact h4)⟩
end
theorem ofM_any (w : World) (c : Nat → Nat) (k m : Nat) (s : Gs) (x : Int) (h : Mgs w c k m s) (hgl : s.gen.length = s.live.length) :
    Calls Try.prog 41 #[.pointer (some ⟨m, 0, none⟩), .int .i64 x] w fun e w' => e = .returned (.tuple #[.int .i64 (s.of x).1, .bool (s.of x).2]) ∧ w = w' := by
  obtain ⟨A1, n1, c1, A2, n2, c2, A3, n3, c3, q0, q1, q2, q3, q4, k1, k2, k3⟩ := h.cells
  have hn1 := k1.len
  have hn2 := k2.len
  have s1 := k1.small
  have s2 := k2.small
  have p1 := k1.cap
  have p2 := k2.cap
  unfold maxLen at s1 s2
  by_cases hx0 : x < 0
  · have ho : s.of x = (0, false) := if_neg (by omega)
    rw [ho]
    clear h k1 k2 k3 q0 q3 q4 ho
    go_enter Try.func41, Try.ntmps41
    go_wp2
    go_ret2
    exact ⟨rfl, rfl⟩
  · obtain ⟨i, rfl⟩ : ∃ i : Nat, x = (i : Int) := ⟨x.toNat, by omega⟩
    by_cases hi : i < n2
    · have hi1 : ¬ (i : Int) ≥ (n2 : Int) := by omega
      obtain ⟨b, o, y, hy, rfl, _, e2⟩ := k2.bool_at hi
      obtain ⟨b', o', z, hz, rfl, _, e1⟩ := k1.int_at (i := i) (by omega)
      have hi2 : (i : Int) < (n1 : Int) := by omega
      cases y
      · have ho : s.of (i : Int) = (0, false) := if_neg (by rw [Int.toNat_natCast, hy]; simp)
        rw [ho]
        clear h k1 k2 k3 q0 q3 q4 ho hy hz
        go_enter Try.func41, Try.ntmps41
        go_wp2
        go_ret2
        exact ⟨rfl, rfl⟩
      · have ho : s.of (i : Int) = (z, true) := by
          unfold Gs.of
          rw [Int.toNat_natCast, if_pos ⟨by omega, hy⟩, List.getD_eq_getElem?_getD, hz]
          rfl
        rw [ho]
        clear h k1 k2 k3 q0 q3 q4 ho hy hz
        go_enter Try.func41, Try.ntmps41
        go_wp2
        go_ret2
        exact ⟨rfl, rfl⟩
    · have hi1 : (i : Int) ≥ (n2 : Int) := by omega
      have ho : s.of (i : Int) = (0, false) := if_neg (by rw [Int.toNat_natCast, List.getElem?_eq_none (by omega)]; simp)
      rw [ho]
      clear h k1 k2 k3 q0 q3 q4 ho
      go_enter Try.func41, Try.ntmps41
      go_wp2
      go_ret2
      exact ⟨rfl, rfl⟩
theorem Kept.rcT {c : Nat → Nat} {k : Nat} {w w1 w2 : World} (h : Kept c k w w1) (h' : Kept (rc c w.heap.size k) k w1 w2) : Kept c k w w2 :=
  ⟨h'.os.trans h.os, h'.tape.trans h.tape, h'.output.trans h.output, Nat.le_trans h.size h'.size, fun g hg hne => (h'.block g (Nat.lt_of_lt_of_le hg h.size) (by rw [rc_old hg]; exact hne)).trans (h.block g hg hne)⟩
/-- What Issue says and leaves. -/
def IsM (w : World) (c : Nat → Nat) (k m : Nat) (s : Gs) (d : Int) (e : Ending) (w' : World) : Prop :=
  e = .returned (.tuple #[.int .i64 (s.issV d).1, .int .i64 (s.issV d).2.1, .int .i64 (s.issV d).2.2]) ∧ Mgs w' (rc c w.heap.size k) k m (s.issN d) ∧ Kept c k w w'
theorem issM_any (w : World) (c : Nat → Nat) (k m N : Nat) (s : Gs) (d : Int) (h : Mgs w c k m s) (hW : s.Wf N) (hN : N ≤ 1000000) (hl : s.free.length ≤ 1000000) (hd : 0 ≤ d ∧ d < 18446744073709551616) :
    Calls Try.prog 53 #[.pointer (some ⟨m, 0, none⟩), .int .u64 d] w (IsM w c k m s d) := by
  obtain ⟨A1, n1, c1, A2, n2, c2, A3, n3, c3, q0, q1, q2, q3, q4, k1, k2, k3⟩ := h.cells
  have hn3 : n3 = s.free.length := k3.len.symm
  have p3 := k3.cap
  have s3 := k3.small
  unfold maxLen at s3
  have HM := Lib.hid h
  unfold IsM
  by_cases hf : s.free = []
  · obtain rfl : n3 = 0 := by rw [hn3, hf]; rfl
    have hv : s.issV d = (0, 0, 17) := if_pos hf
    have hs : s.issN d = s := if_pos hf
    rw [hv, hs]
    clear h k1 k2 k3 q0 q1 q2 q4 hv hs hn3
    go_enter Try.func53, Try.ntmps53
    go_wp2
    refine bodyPost_ret (results_tmp3 rfl _ _ _) rfl ?_
    exact ⟨rfl, HM.out.kept (j := k + 1) (Kept.refl) (by omega) (fun _ hg => rc_old hg), Kept.refl⟩
  · have hp : 0 < s.free.length := List.length_pos_iff.2 hf
    obtain ⟨j, hv, hxj, hj, hlf, hgj⟩ := Gs.iss_ok (d := d) hW hf
    have hs : s.issN d = { s with gen := s.gen.set j (s.nxt j), live := s.live.set j true, free := tkL 0 s.free d } := by
      unfold Gs.issN
      rw [if_neg hf, hxj, Int.toNat_natCast]
    have hnx := hW.nx hj hgj
    have hg0 : 0 ≤ s.gen.getD j 0 := by
      rcases hW.gb j hj with e | e
      · omega
      · have := hW.f1
        omega
    have hf1 := hW.f1
    have HNX : Hid (s.nxt j = if s.gen.getD j 0 = 0 then s.first else s.gen.getD j 0 + 1) := Lib.hid rfl
    have hjg : j < s.gen.length := by rw [hW.gl]; exact hj
    have HJG := Lib.hid hjg
    have HLF := Lib.hid hlf
    have HRT := Lib.hid (refTI_any A3 n3 c3 s.free d w k3 hf hl hd)
    unfold RtE at HRT
    rw [hxj] at HRT
    have hn0 : 0 < n3 := by omega
    have hne0 : ((n3 : Int) == 0) = false := by simpa using (show ¬ (n3 : Int) = 0 by omega)
    rw [hv, hs]
    have HGL : Hid (s.gen.length = N ∧ s.live.length = N) := Lib.hid ⟨hW.gl, hW.ll⟩
    clear h hW k1 k2 k3 hv hs hxj hf hlf hjg hn3
    go_enter Try.func53, Try.ntmps53
    go_wp2_with fail
    refine HRT.out.mono ?_
    rintro e w2 ⟨v, rfl, ho, hb⟩
    obtain ⟨f3, hM3, hK3⟩ := HM.out.freeAt hb ho
    obtain ⟨A, n, cc, rfl, _⟩ := ho.shape
    have e3 : w2.cell? ⟨m, 3, none⟩ = some (.slice A3 n3 c3) := (hb.cell (p := ⟨m, 3, none⟩) HM.out.lt).trans q3
    have HM3 := Lib.hid hM3
    have HK3 := Lib.hid hK3
    clear ho hb hM3 hK3 q0 q1 q2 q3 q4 HRT
    have hjN : (j : Int) < (N : Int) := by omega
    by_cases hg : s.gen.getD j 0 = 0
    · obtain ⟨g, cap, a1, a2, a3, a4, _, _, _⟩ := HM3.out.genAt (i := j) HJG.out 0
      obtain ⟨_, _, _, _, _, _, _, _, _, a0, _⟩ := HM3.out.cells
      unfold maxLen at a3
      simp only at a0 a1 a4
      rw [HGL.out.1] at a1 a2
      rw [hg] at a4
      have HN : Hid (s.nxt j = s.first) := Lib.hid (by rw [HNX.out, if_pos hg])
      go_wp2_with fail
      generalize w2.setCell ⟨m, 3, none⟩ (.slice A n cc) = w3 at *
      have z1 : ∀ q : Later w3, q.val.cell? ⟨m, 1, none⟩ = some (.slice (some ⟨g, 0, none⟩) N cap) := fun q => later_old q a1
      have z0 : ∀ q : Later w3, q.val.cell? ⟨m, 0, none⟩ = some (.int .i64 s.first) := fun q => later_old q a0
      refine wp_region_later_tail 10 (by kernel_rfl) (by kernel_rfl) ?_
      simp only [List.take_succ_cons, List.take_zero, List.drop_succ_cons, List.drop_zero]
      repeat (go_big_quiet_step (fail))
      refine wpQuiet_nil ?_
      rintro w4 ⟨⟨_, hq⟩, rfl⟩
      have hz1 := z1 ⟨w4, hq⟩
      simp only at hz1
      obtain ⟨g', cap', y1, _, _, y4, y5, y6, y7⟩ := (HM3.out.go hq).genAt (i := j) HJG.out (s.nxt j)
      simp only at y1 y4
      rw [HGL.out.1, hz1] at y1
      obtain ⟨rfl, rfl⟩ : g = g' ∧ cap = cap' := by
        have e := Option.some.inj y1
        injection e with e1 e2 e3
        have e4 := Option.some.inj e1
        injection e4 with e5
        exact ⟨e5, e3⟩
      rw [hg] at y4
      have HK4 := Lib.hid ((HK3.out.trans (Kept.ofBelow hq)).rcT y7)
      obtain ⟨g2, cap2, b1, b2, b3, b4, b5, b6, b7⟩ := y6.liveAt (i := j) HLF.out true
      unfold maxLen at b3
      simp only at b1 b2
      rw [HGL.out.2] at b1 b2
      have HM5 := Lib.hid b6
      have HK5 := Lib.hid (HK4.out.rcT b7)
      obtain ⟨g5, cap5, d1, d2, d3, d4, _, _, _⟩ := HM5.out.genAt (i := j) (by show j < (s.gen.set j (s.nxt j)).length; rw [List.length_set]; exact HJG.out) 0
      unfold maxLen at d3
      simp only at d1 d4
      rw [List.length_set, HGL.out.1] at d1 d2
      rw [getD_set_eq HJG.out] at d4
      rw [HN.out] at b1 b4 b5 d1 d4 HM5 HK5
      clear y6 y7 hq z0 z1 b6 b7 HM3 HM HK3 HK4
      go_wp2_with fail
      go_quiet (fail)
      go_wp2
      refine bodyPost_ret (results_tmp3 rfl _ _ _) rfl ?_
      rw [HN.out]
      exact ⟨rfl, HM5.out.go (below_drewN (Below.refl _ _) nq), HK5.out.trans (Kept.ofBelow (below_drewN (Below.refl _ _) nq))⟩
    · obtain ⟨g, cap, a1, a2, a3, a4, y5, y6, y7⟩ := HM3.out.genAt (i := j) HJG.out (s.nxt j)
      unfold maxLen at a3
      simp only at a1 a4
      rw [HGL.out.1] at a1 a2
      have HN : Hid (s.nxt j = s.gen.getD j 0 + 1) := Lib.hid (by rw [HNX.out, if_neg hg])
      have HK4 := Lib.hid (HK3.out.rcT y7)
      obtain ⟨g2, cap2, b1, b2, b3, b4, b5, b6, b7⟩ := y6.liveAt (i := j) HLF.out true
      unfold maxLen at b3
      simp only at b1 b2
      rw [HGL.out.2] at b1 b2
      have HM5 := Lib.hid b6
      have HK5 := Lib.hid (HK4.out.rcT b7)
      obtain ⟨g5, cap5, d1, d2, d3, d4, _, _, _⟩ := HM5.out.genAt (i := j) (by show j < (s.gen.set j (s.nxt j)).length; rw [List.length_set]; exact HJG.out) 0
      unfold maxLen at d3
      simp only at d1 d4
      rw [List.length_set, HGL.out.1] at d1 d2
      rw [getD_set_eq HJG.out] at d4
      rw [HN.out] at b1 b4 b5 d1 d4 HM5 HK5
      generalize s.gen.getD j 0 = gv at *
      have hgb : (gv == 0) = false := by simpa using hg
      clear y6 y7 b6 b7 HM3 HM HK3 HK4
      go_wp2_with fail
      go_quiet (fail)
      go_wp2
      refine bodyPost_ret (results_tmp3 rfl _ _ _) rfl ?_
      rw [HN.out]
      exact ⟨rfl, HM5.out.go (below_drewN (Below.refl _ _) nq), HK5.out.trans (Kept.ofBelow (below_drewN (Below.refl _ _) nq))⟩
end Go.Proofs.Ytaoojgnkbcoggaa
