/-
  Contracts of the laws' own helpers: the example of the chapter, the comparison of two lists, the bound on a list's length. Conditions: lists have at most a million extents.
-/
import Derived.Test.YtbiamhandhbodaaInsOk
import Derived.Test.YtbiamhandhbodaaMem
namespace Go.Proofs.Ytbiamhandhbodaa
open Go.ChangeShapes Go.WideShapes Go.ChangeAt Go.RowKit
set_option maxHeartbeats 800000
set_option maxRecDepth 100000

theorem same_yes (A A' : Option Addr) (n n' c c' : Nat) (l : List (Int × Int)) (w : World) (h : Exs w w.heap.size A n c l) (h' : Exs w w.heap.size A' n' c' l) :
    Calls Try.prog 23 #[.slice A n c, .slice A' n' c'] w (Tell w true) := by
  have HA := Lib.hid h
  have HA' := Lib.hid h'
  obtain rfl : n = n' := h.len.symm.trans h'.len
  have hsm := h.small
  have hcap := h.cap
  have hsm' := h'.small
  have hcap' := h'.cap
  unfold maxLen at hsm hsm'
  clear h h'
  go_enter Try.func23, Try.ntmps23
  go_wp2
  go_loopw [5] (fun i wr => ∃ (k : Nat), k ≤ n ∧ i = .int .i64 k ∧ Hid (Below w.heap.size w wr)) (fun i _ => n - (intOf i).toNat)
  case atStart => exact ⟨0, by omega, rfl, Lib.hid (Below.refl _ _)⟩
  case round =>
    obtain ⟨k, hk, rfl, hh⟩ := hrel
    by_cases hlt : k < n
    · obtain ⟨b, o, x, y, hx, rfl, hb, hc1, hc2, x0, x1, y0, y1⟩ := (HA.out.below hh.out).at_ hlt
      obtain ⟨b', o', x', y', hx', rfl, hb', hc1', hc2', _⟩ := (HA'.out.below hh.out).at_ hlt
      rw [hx] at hx'
      cases hx'
      clear hx
      have hlt' : (k : Int) < (n : Int) := by omega
      go_wp2
      go_quiet (fail)
      go_wp2
      go_roundw
      case rel => exact ⟨k + 1, by omega, by go_num, Lib.hid (below_drewN hh.out _)⟩
      case measure => simp [intOf]; omega
    · go_wp2
      go_ret
      exact ⟨rfl, hh.out⟩

theorem awake_ins : ins [(0, 4), (10, 2)] (4, 4) = [(0, 8), (10, 2)] := by simp [ins]
end Go.Proofs.Ytbiamhandhbodaa
