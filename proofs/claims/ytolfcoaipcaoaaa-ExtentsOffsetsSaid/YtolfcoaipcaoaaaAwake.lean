/-
  Contracts of the laws' own helpers: the example of the chapter, the comparison of two lists, the bound on a list's length. Conditions: lists have at most a million extents.
-/
import Derived.Test.YtolfcoaipcaoaaaInsOk
import Derived.Test.YtolfcoaipcaoaaaTape
namespace Go.Proofs.Ytolfcoaipcaoaaa
open Go.ChangeShapes Go.WideShapes Go.ChangeAt Go.RowKit
set_option maxHeartbeats 800000
set_option maxRecDepth 100000

theorem same_yes (A A' : Option Addr) (n n' c c' : Nat) (l : List (Int × Int)) (w : World) (h : Exs w w.heap.size A n c l) (h' : Exs w w.heap.size A' n' c' l) :
    Calls Try.prog 23 #[.slice A n c, .slice A' n' c'] w (Tell w true) := by
  have HA := Lib.hid h
  have HA' := Lib.hid h'
  obtain rfl : n = n' := h.len.symm.trans h'.len
  have hsm := h.small
  have hcap := h.cap
  have hsm' := h'.small
  have hcap' := h'.cap
  unfold maxLen at hsm hsm'
  clear h h'
  go_enter Try.func23, Try.ntmps23
  go_wp2
  go_loopw [5] (fun i wr => ∃ (k : Nat), k ≤ n ∧ i = .int .i64 k ∧ Hid (Below w.heap.size w wr)) (fun i _ => n - (intOf i).toNat)
  case atStart => exact ⟨0, by omega, rfl, Lib.hid (Below.refl _ _)⟩
  case round =>
    obtain ⟨k, hk, rfl, hh⟩ := hrel
    by_cases hlt : k < n
    · obtain ⟨b, o, x, y, hx, rfl, hb, hc1, hc2, x0, x1, y0, y1⟩ := (HA.out.below hh.out).at_ hlt
      obtain ⟨b', o', x', y', hx', rfl, hb', hc1', hc2', _⟩ := (HA'.out.below hh.out).at_ hlt
      rw [hx] at hx'
      cases hx'
      clear hx
      have hlt' : (k : Int) < (n : Int) := by omega
      go_wp2
      go_quiet (fail)
      go_wp2
      go_roundw
      case rel => exact ⟨k + 1, by omega, by go_num, Lib.hid (below_drewN hh.out _)⟩
      case measure => simp [intOf]; omega
    · go_wp2
      go_ret
      exact ⟨rfl, hh.out⟩

theorem few_any (A : Option Addr) (n c : Nat) (w : World) :
    Calls Try.prog 12 #[.slice A n c] w fun e w' => e = .returned (.bool (decide (n ≤ 20))) ∧ w = w' := by
  go_enter Try.func12, Try.ntmps12
  go_wp2
  go_ret
  exact ⟨by simp; omega, rfl⟩

theorem awake_ins : ins [(0, 4), (10, 2)] (4, 4) = [(0, 8), (10, 2)] := by simp [ins]
theorem awake_any (w : World) : Calls Try.prog 13 #[] w (Tell w true) := by
  have H := Lib.hid (insert_ok (some ⟨w.heap.size, 0, none⟩) 2 2 [(0, 4), (10, 2)] 4 4 (w.alloc (.cells #[.int .i64 0, .int .i64 4, .int .i64 10, .int .i64 2] 31)) ((Exs.new w [(0, 4), (10, 2)] #[.int .i64 0, .int .i64 4, .int .i64 10, .int .i64 2] 31 2 rfl rfl (by unfold maxLen; omega) (by unfold Fits; simp)).more (by simp)) (by omega) (by simp [Va]) (by simp [Pr]) (by unfold Free; simp))
  rw [awake_ins] at H
  go_enter Try.func13, Try.ntmps13
  go_wp2_with fail
  refine H.out.mono ?_
  rintro e w1 ⟨v, rfl, ho, hb⟩
  obtain ⟨A1, n1, c1, rfl, hx⟩ := ho.shape
  obtain rfl : 2 = n1 := hx.len
  have hcap := hx.cap
  have hsm := hx.small
  unfold maxLen at hsm
  obtain ⟨b, o, x, y, e1, rfl, _, h1, h2, _⟩ := hx.at_ (k := 0) (by omega)
  obtain ⟨b', o', x', y', e2, e3, _, h3, h4, _⟩ := hx.at_ (k := 1) (by omega)
  cases e1
  cases e2
  cases e3
  have HB := Lib.hid (Below.then ((Below.refl w.heap.size w).alloc (Nat.le_refl _) _) hb (Nat.le_refl _))
  clear H ho hb hx
  simp only [Nat.zero_mul, Nat.one_mul, Nat.add_zero] at h1 h2 h3 h4
  go_wp2
  go_ret
  exact ⟨rfl, HB.out⟩
end Go.Proofs.Ytolfcoaipcaoaaa
