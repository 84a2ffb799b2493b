/-
  Contracts of the model's Free and Sorted. Conditions: at most nine hundred extents.
-/
import Derived.Test.YtfchccgajcjbbaaNdl
import Derived.Test.YtfchccgajcjbbaaAlcA
import Derived.BigRegion
namespace Go.Proofs.Ytfchccgajcjbbaa
open Go.ChangeShapes Go.WideShapes Go.ChangeAt Go.RowKit
set_option maxHeartbeats 4000000
set_option maxRecDepth 100000

/-- The list without an extent. -/
def wo (U : List (Int × Int)) (e : Int × Int) : List (Int × Int) := U.filter fun y => y != e
theorem wo_step {U : List (Int × Int)} {e z : Int × Int} {i : Nat} (h : U[i]? = some z) : wo (U.take (i + 1)) e = wo (U.take i) e ++ (if z = e then [] else [z]) := by
  unfold wo
  rw [take_one h, List.filter_append]
  by_cases hz : z = e
  · subst hz; simp
  · simp [hz]
theorem wo_same {U : List (Int × Int)} {e : Int × Int} (h : e ∉ U) : wo U e = U := List.filter_eq_self.2 fun y hy => by
  simp only [bne_iff_ne, ne_eq]
  intro e'
  subst e'
  exact h hy
theorem wo_less {U : List (Int × Int)} {e : Int × Int} (h : e ∈ U) : (wo U e).length < U.length := by
  unfold wo
  rcases Nat.lt_or_ge (U.filter fun y => y != e).length U.length with h1 | h1
  · exact h1
  · have h2 := List.length_filter_le (fun y => y != e) U
    have h3 := List.length_filter_eq_length_iff.1 (Nat.le_antisymm h2 h1) e h
    simp at h3
theorem wo_le {U : List (Int × Int)} {e : Int × Int} : (wo U e).length ≤ U.length := List.length_filter_le _ _

/-- What the model's Free says. -/
def FreeRE (w : World) (c : Nat → Nat) (k q : Nat) (n : Int) (U : List (Int × Int)) (X : List Value) (T : TypeId) (z : Int × Int) (e : Ending) (w' : World) : Prop :=
  (z ∉ U ∧ e = .returned (.int .i64 6) ∧ Below w.heap.size w w') ∨ (z ∈ U ∧ e = .returned (.int .i64 0) ∧ Mdl w' (rc c w.heap.size k) k q n (wo U z) X T ∧ Kept c k w w')
theorem freeR_any {X : List Value} {T : TypeId} (c : Nat → Nat) (k q : Nat) (n x y : Int) (U : List (Int × Int)) (w : World) (h : Mdl w c k q n U X T) (hU : U.length ≤ 900) :
    Calls Try.prog 68 #[.pointer (some ⟨q, 0, none⟩), .agg #[.int .i64 x, .int .i64 y]] w (FreeRE w c k q n U X T (x, y)) := by
  obtain ⟨i0, hi0, hz0, hz1, hz2⟩ := info_parts infoE
  have hb0 : Below w.heap.size w (w.alloc (.cells #[.int .i64 x, .int .i64 y] 31)) := (Below.refl _ _).alloc (Nat.le_refl _) _
  have HBX := Lib.hid (Box.new (w := w) (x := x) (y := y))
  have HB0 := Lib.hid hb0
  have hqw := h.lt
  obtain ⟨vu, h1, h2, h3, h4⟩ := h.ex
  obtain ⟨Au, nu, cu, rfl, _⟩ := h2.shape
  have hx := (h2.below hb0).exs
  have HBLK := Lib.hid h1
  have HX := Lib.hid hx
  have hcap := hx.cap
  have hsm := hx.small
  unfold maxLen at hsm
  have hnu : nu ≤ 900 := by have := hx.len; omega
  have HC := Lib.hid h3
  clear h h1 h2 h3 h4 hx hb0
  go_enter Try.func68, Try.ntmps68
  go_wp2
  generalize w.alloc (.cells #[.int .i64 x, .int .i64 y] 31) = w1 at *
  have hw1 : w.heap.size < w1.heap.size := HBX.out.lt
  have HBL1 : Hid (w1.heap[q]? = some (.cells (List.toArray (.int .i64 n :: .slice Au nu cu :: X)) T (0, 0))) := Lib.hid ((HB0.out.block q hqw).trans HBLK.out)
  have hq1 : q < w1.heap.size := by omega
  go_loopw [5, 6] (fun sv iv wr => ∃ (i : Nat) (A' : Option Addr) (n' c' : Nat), i ≤ nu ∧ iv = .int .i64 i ∧ sv = .slice A' n' c' ∧ Hid (OwnE 31 wr w1.heap.size (.slice A' n' c') (wo (U.take i) (x, y)) ∧ Below w1.heap.size w1 wr)) (fun _ iv _ => nu - (intOf iv).toNat)
  case atStart => exact ⟨0, none, 0, 0, by omega, rfl, rfl, Lib.hid ⟨by simpa [wo] using OwnE.nil _ _ _, Below.refl _ _⟩⟩
  case round =>
    obtain ⟨i, A', n', c', hi, rfl, rfl, hh⟩ := hrel
    have HBLr : Hid (wr.heap[q]? = some (.cells (List.toArray (.int .i64 n :: .slice Au nu cu :: X)) T (0, 0))) := Lib.hid ((hh.out.2.block q hq1).trans HBL1.out)
    have hcr : wr.cell? ⟨q, 1, none⟩ = some (.slice Au nu cu) := cell_of_row wr q 1 _ _ _ HBLr.out
    have HBXr := Lib.hid (HBX.out.go hh.out.2)
    have e0 := HBXr.out.cell0
    have e1 := HBXr.out.cell1
    by_cases hlt : i < nu
    · obtain ⟨b, o, u, v, hu, rfl, hb, hc1, hc2, x0, x1, y0, y1⟩ := (HX.out.below hh.out.2).at_ hlt
      have hlt' : (i : Int) < (nu : Int) := by omega
      have hst := wo_step (e := (x, y)) hu
      have HO := Lib.hid hh.out.1
      have HB := Lib.hid hh.out.2
      have hbz := hh.out.2.size
      have hn' : (wo (U.take i) (x, y)).length ≤ 900 := by
        have := wo_le (U := U.take i) (e := (x, y))
        rw [List.length_take] at this
        omega
      clear hu hh
      by_cases heq : u = x ∧ v = y
      · obtain ⟨rfl, rfl⟩ := heq
        rw [if_pos rfl, List.append_nil] at hst
        have HST := Lib.hid hst
        clear hst
        go_wp2
        go_quiet (fail)
        go_wp2
        go_roundw
        case rel => exact ⟨i + 1, A', n', c', by omega, by go_num, rfl, Lib.hid ⟨by rw [HST.out]; exact HO.out.drewN _, below_drewN HB.out _⟩⟩
        case measure => simp [intOf]; omega
      · rw [if_neg (fun e => heq (by cases e; exact ⟨rfl, rfl⟩))] at hst
        have HST := Lib.hid hst
        clear hst
        have hd : ((u == x && v == y) = false) := by
          rcases Decidable.em (u = x) with h1 | h1
          · have h2 : ¬ v = y := fun e => heq ⟨h1, e⟩
            simp [h2]
          · simp [h1]
        by_cases h1 : u = x
        all_goals
          first
            | (have h2 : ¬ v = y := fun e => heq ⟨h1, e⟩
               subst h1
               have h3 : (v == y) = false := by simpa using h2)
            | (have h3 : (u == x) = false := by simpa using h1)
          clear heq hd
          go_wp2
          go_quiet (fail)
          have HO1 := Lib.hid (HO.out.drewN nq)
          have HB1 := Lib.hid (below_drewN HB.out nq)
          have l0 : (wr.drewN nq).cell? ⟨q, 1, none⟩ = some (.slice (some ⟨b, o, none⟩) nu cu) := hcr
          have l1 : (wr.drewN nq).cell? ⟨b, o + i * 2, none⟩ = some (.int .i64 _) := hc1
          have l2 : (wr.drewN nq).cell? ⟨b, o + i * 2 + 1, none⟩ = some (.int .i64 _) := hc2
          have hz : w1.heap.size ≤ (wr.drewN nq).heap.size := hbz
          generalize wr.drewN nq = w2 at *
          go_wp2_with (at_builtin; go_must (refine wpList_appE _ rfl (.tmp 25) (.tmp 33) 34 rfl Try.underlying34 hi0 hz0 rfl hz1 (by omega) (HO1.out.alloc _) rfl (Exs.new w2 [(_, _)] _ _ 1 rfl rfl (by unfold maxLen; omega) (fun z hz => by simp at hz; subst hz; simp only; omega)) rfl (by omega) (by simp; omega) ?_); intro v3 w3 ho3 hb3 hg3; obtain ⟨A3, n3, c3, rfl, hx3⟩ := ho3.shape)
          go_roundw
          case rel => exact ⟨i + 1, A3, n3, c3, by omega, by go_num, rfl, Lib.hid ⟨by rw [HST.out]; exact ho3, (HB1.out.alloc hz _).trans hb3⟩⟩
          case measure => simp [intOf]; omega
    · obtain rfl : i = nu := by omega
      have hlt' : ¬ (i : Int) < (i : Int) := by omega
      have HT : Hid (U.take i = U) := Lib.hid (List.take_of_length_le (by have := HX.out.len; omega))
      rw [HT.out] at hh
      have HO := Lib.hid hh.out.1
      have HB := Lib.hid (Below.then HB0.out hh.out.2 (by omega))
      have hl1 := hh.out.1.exs.len
      have hl2 := HX.out.len
      clear hh
      by_cases hm : (x, y) ∈ U
      · have hne : ¬ ((n' : Int) = (i : Int)) := by have := wo_less hm; omega
        have k2 : wr.frozen? ⟨q, 1, none⟩ = false := frozen_of_row wr q 1 _ _ HBLr.out
        go_wp2
        go_ret
        refine Or.inr ⟨hm, rfl, ⟨.slice A' n' c', heap_setCell_same wr q 1 _ _ _ HBLr.out, (HO.out.setc (fun e => by have := HO.out.blk_ge e; omega) _).down (Nat.zero_le _), rc_is (.inl HC.out), fun g hg => ?_⟩, (Kept.ofBelow HB.out).own HC.out _⟩
        have := HO.out.blk_ge hg
        exact ⟨rc_is (.inr (by omega)), by omega⟩
      · have heq : (n' : Int) = (i : Int) := by rw [wo_same hm] at hl1; omega
        go_wp2
        go_ret
        exact Or.inl ⟨hm, rfl, HB.out⟩
end Go.Proofs.Ytfchccgajcjbbaa
