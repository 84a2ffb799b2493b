/-
  Contracts of a nil and of a zero table. No conditions.
-/
import Derived.Test.YtaoojgnkbcoggaaHwl
import Derived.Test.YtaoojgnkbcoggaaGsz
namespace Go.Proofs.Ytaoojgnkbcoggaa
open Go.ChangeShapes Go.WideShapes Go.RowKit
set_option linter.unusedVariables false
set_option linter.unusedSimpArgs false
set_option maxHeartbeats 8000000
set_option maxRecDepth 100000

/-- A nil pointer, or one to a zero table. -/
def Bt (w : World) (v : Value) : Prop := ∃ q, v = .pointer q ∧ (q = none ∨ ∃ p, q = some ⟨p, 0, none⟩ ∧ w.cell? ⟨p, 0, none⟩ = some (.pointer none) ∧ w.cell? ⟨p, 1, none⟩ = some (.slice none 0 0))
theorem Bt.go {w w' : World} {v : Value} (h : Bt w v) (hb : Below w.heap.size w w') : Bt w' v := by
  obtain ⟨q, h0, h⟩ := h
  refine ⟨q, h0, ?_⟩
  rcases h with h | ⟨p, h1, h2, h3⟩
  · exact .inl h
  · exact .inr ⟨p, h1, (hb.cell (p := ⟨p, 0, none⟩) (lt_of_some h2)).trans h2, (hb.cell (p := ⟨p, 1, none⟩) (lt_of_some h3)).trans h3⟩
theorem gensZ_any (w : World) (v : Value) (h : Bt w v) : Calls Try.prog 36 #[v] w fun e w' => e = .returned (.pointer none) ∧ w = w' := by
  obtain ⟨q, rfl, h⟩ := h
  rcases h with rfl | ⟨p, rfl, q0, q1⟩
  · go_enter Try.func36, Try.ntmps36
    go_wp2
    go_ret
    exact ⟨rfl, rfl⟩
  · go_enter Try.func36, Try.ntmps36
    go_wp2
    go_ret
    exact ⟨rfl, rfl⟩
theorem ba_none {w : World} : Ba w (.pointer none) := .inl rfl
theorem issZ13_ok (w : World) (v : Value) (f l d : Int) (h : Bt w v) : Calls Try.prog 21 #[v, .int .i64 1, .int .i64 1, .agg #[.int .i64 f, .int .i64 l], .int .u64 d] w fun e w' => e = .returned (.tuple #[.int .u64 0, .int .i64 17]) ∧ Below w.heap.size w w' := by
  have hba : Below w.heap.size w (w.alloc (.cells #[.int .i64 f, .int .i64 l] 42)) := (Below.refl _ _).alloc (Nat.le_refl _) _
  have HG := Lib.hid (gensZ_any _ v (h.go hba))
  have HB := Lib.hid hba
  have HO : Hid (∀ W, Calls Try.prog 43 #[.int .i64 1] W fun e w' => e = .returned (.bool true) ∧ W = w') := Lib.hid (fun W => by
    have := owner_any 1 W
    rwa [decide_eq_true (by unfold okO; omega)] at this)
  obtain ⟨q, rfl, _⟩ := h
  clear hba
  go_enter Try.func21, Try.ntmps21
  go_wp2_with fail
  refine (HO.out _).mono ?_
  rintro e w2 ⟨rfl, rfl⟩
  go_wp2_with fail
  refine HG.out.mono ?_
  rintro e w2 ⟨rfl, rfl⟩
  go_wp2_with fail
  refine (issZ_any _ _ d ba_none).mono ?_
  rintro e w2 ⟨rfl, rfl⟩
  go_wp2
  go_ret2
  exact ⟨rfl, HB.out⟩
theorem issZ13_bad (w : World) (v : Value) (f l d : Int) (h : Bt w v) : Calls Try.prog 21 #[v, .int .i64 0, .int .i64 1, .agg #[.int .i64 f, .int .i64 l], .int .u64 d] w fun e w' => e = .returned (.tuple #[.int .u64 0, .int .i64 1]) ∧ Below w.heap.size w w' := by
  have hba : Below w.heap.size w (w.alloc (.cells #[.int .i64 f, .int .i64 l] 42)) := (Below.refl _ _).alloc (Nat.le_refl _) _
  have HB := Lib.hid hba
  have HO : Hid (∀ W, Calls Try.prog 43 #[.int .i64 0] W fun e w' => e = .returned (.bool false) ∧ W = w') := Lib.hid (fun W => by
    have := owner_any 0 W
    rwa [decide_eq_false (by unfold okO; omega)] at this)
  obtain ⟨q, rfl, _⟩ := h
  clear hba
  go_enter Try.func21, Try.ntmps21
  go_wp2_with fail
  refine (HO.out _).mono ?_
  rintro e w2 ⟨rfl, rfl⟩
  go_wp2
  go_ret2
  exact ⟨rfl, HB.out⟩
theorem resZ13_any (w : World) (v : Value) (h : Int) (H : Bt w v) (hu : U64 h) : Calls Try.prog 15 #[v, .int .u64 h] w fun e w' => e = .returned (.tuple #[.agg #[.int .u64 0, .int .i64 0, .int .i64 0, .int .i64 0, .int .i64 0], .int .i64 10]) ∧ Below w.heap.size w w' := by
  have hba : Below w.heap.size w (w.alloc (.cells #[.int .u64 0, .int .i64 0, .int .i64 0, .int .i64 0, .int .i64 0] 44)) := (Below.refl _ _).alloc (Nat.le_refl _) _
  have HB0 := Lib.hid hba
  have HGN := Lib.hid (gensZ_any _ v (H.go hba))
  obtain ⟨j, hj⟩ : ∃ j : Nat, wSl h = (j : Int) := ⟨(wSl h).toNat, by have := wSl_bd (x := h); omega⟩
  have HSL := Lib.hid (fun W => slot_any h hu W)
  rw [hj] at HSL
  have hj0 : (j : Int) ≥ 0 := by omega
  have HE0 := Lib.hid (EnB.new (w := w) (h := 0) (o := 0) (t := 0) (f := 0) (l := 0))
  obtain ⟨q, rfl, _⟩ := H
  clear hba hj hu
  go_enter Try.func15, Try.ntmps15
  go_wp2_with fail
  generalize w.alloc (.cells #[.int .u64 0, .int .i64 0, .int .i64 0, .int .i64 0, .int .i64 0] 44) = w0 at *
  generalize hbz : w.heap.size = b0 at *
  have HBZ := Lib.hid hbz
  clear hbz
  refine (HSL.out _).mono ?_
  rintro e w2 ⟨rfl, rfl⟩
  go_wp2_with fail
  refine HGN.out.mono ?_
  rintro e w2 ⟨rfl, rfl⟩
  go_wp2_with fail
  refine (sizeZ_any _ _ ba_none).mono ?_
  rintro e w2 ⟨rfl, rfl⟩
  have f0 := HE0.out.fr
  obtain ⟨c0, c1, c2, c3, c4⟩ := HE0.out.cells
  go_wp2
  obtain ⟨h5, hb5⟩ := HE0.out.set 0 0 0 0 0
  obtain ⟨k0, k1, k2, k3, k4⟩ := h5.cells
  exact bodyPost_ret (v := .tuple #[.agg #[.int .u64 0, .int .i64 0, .int .i64 0, .int .i64 0, .int .i64 0], .int .i64 10]) (by simp [results, Try.results15, go_sem, k0, k1, k2, k3, k4]) rfl ⟨rfl, by rw [HBZ.out]; exact HB0.out.trans hb5⟩
theorem drpZ13_any (w : World) (v : Value) (h : Int) (H : Bt w v) (hu : U64 h) : Calls Try.prog 19 #[v, .int .u64 h] w fun e w' => e = .returned (.int .i64 10) ∧ Below w.heap.size w w' := by
  have HR := Lib.hid (resZ13_any w v h H hu)
  obtain ⟨q, rfl, _⟩ := H
  go_enter Try.func19, Try.ntmps19
  go_wp2_with fail
  refine HR.out.mono ?_
  rintro e w1 ⟨rfl, hb1⟩
  have HB2 := Lib.hid (hb1.alloc hb1.size (.cells #[.int .u64 0, .int .i64 0, .int .i64 0, .int .i64 0, .int .i64 0] 44))
  clear hb1
  go_wp2
  go_ret
  exact ⟨rfl, HB2.out⟩
theorem givZ13_any (w : World) (v : Value) (h o : Int) (H : Bt w v) (hu : U64 h) : Calls Try.prog 17 #[v, .int .u64 h, .int .i64 o] w fun e w' => e = .returned (.int .i64 10) ∧ Below w.heap.size w w' := by
  have HR := Lib.hid (resZ13_any w v h H hu)
  obtain ⟨q, rfl, _⟩ := H
  go_enter Try.func17, Try.ntmps17
  go_wp2_with fail
  refine HR.out.mono ?_
  rintro e w1 ⟨rfl, hb1⟩
  have HB2 := Lib.hid (hb1.alloc hb1.size (.cells #[.int .u64 0, .int .i64 0, .int .i64 0, .int .i64 0, .int .i64 0] 44))
  clear hb1
  go_wp2
  go_ret
  exact ⟨rfl, HB2.out⟩
theorem liveZ13_any (w : World) (v : Value) (H : Bt w v) : Calls Try.prog 60 #[v] w (EnL w []) := by
  obtain ⟨q, rfl, H⟩ := H
  rcases H with rfl | ⟨p, rfl, q0, q1⟩
  · go_enter Try.func60, Try.ntmps60
    go_wp2
    go_ret
    exact ⟨_, rfl, OwnK.nil _ _ _ _, Below.refl _ _⟩
  · go_enter Try.func60, Try.ntmps60
    go_wp2
    go_loopw [3, 13] (fun lv kv wr => lv = .slice none 0 0 ∧ kv = .int .i64 0 ∧ wr = w) (fun _ _ _ => 0)
    case atStart => exact ⟨rfl, rfl, rfl⟩
    case round =>
      obtain ⟨rfl, rfl, rfl⟩ := hrel
      go_wp2
      go_ret
      exact ⟨_, rfl, OwnK.nil _ _ _ _, Below.refl _ _⟩
theorem listedZ13_any (w : World) (v : Value) (H : Bt w v) : Calls Try.prog 24 #[v] w (EnL w []) := by
  have HL := fun W (hb : Below w.heap.size w W) => liveZ13_any W v (H.go hb)
  obtain ⟨q, rfl, _⟩ := H
  exact listed13_of q [] w (by simp) (fun x hx => by cases hx) List.Pairwise.nil HL
theorem poolZ13_any (w : World) (v : Value) (H : Bt w v) : Calls Try.prog 27 #[v] w (ClI w []) := by
  have HG := Lib.hid (gensZ_any w v H)
  obtain ⟨q, rfl, _⟩ := H
  go_enter Try.func27, Try.ntmps27
  go_wp2_with fail
  refine HG.out.mono ?_
  rintro e w2 ⟨rfl, rfl⟩
  go_wp2_with fail
  refine (poolZ_any w _ ba_none).mono ?_
  rintro e w3 ⟨v, rfl, ho, hb⟩
  have HO := Lib.hid ho
  have HB := Lib.hid hb
  clear ho hb
  go_wp2
  go_ret
  exact ⟨_, rfl, HO.out, HB.out⟩
theorem retZ13_any (w : World) (v : Value) (H : Bt w v) : Calls Try.prog 26 #[v] w fun e w' => e = .returned (.int .i64 0) ∧ w = w' := by
  have HG := Lib.hid (gensZ_any w v H)
  obtain ⟨q, rfl, _⟩ := H
  go_enter Try.func26, Try.ntmps26
  go_wp2_with fail
  refine HG.out.mono ?_
  rintro e w2 ⟨rfl, rfl⟩
  go_wp2_with fail
  refine (retZ_any w _ ba_none).mono ?_
  rintro e w3 ⟨rfl, rfl⟩
  go_wp2
  go_ret
  exact ⟨rfl, rfl⟩
theorem fullZ13_any (w : World) (v : Value) (H : Bt w v) : Calls Try.prog 25 #[v] w fun e w' => e = .returned (.bool true) ∧ Below w.heap.size w w' := by
  have HP := Lib.hid (poolZ13_any w v H)
  obtain ⟨q, rfl, _⟩ := H
  go_enter Try.func25, Try.ntmps25
  go_wp2_with fail
  refine HP.out.mono ?_
  rintro e w3 ⟨v, rfl, ho, hb⟩
  obtain ⟨A3, n3, c3, rfl, hx3⟩ := ho.shape
  obtain rfl : n3 = 0 := hx3.len.symm
  have HB := Lib.hid hb
  clear ho hb hx3
  go_wp2
  go_ret
  exact ⟨rfl, HB.out⟩
end Go.Proofs.Ytaoojgnkbcoggaa
