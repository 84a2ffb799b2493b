/-
  The comparison of two lists of borrows that are equal, and the example of the chapter. No conditions.
-/
import Derived.Test.YtmmlelmkgnhofaaMdx
import Derived.Test.YtmmlelmkgnhofaaLdl
import Derived.Test.YtmmlelmkgnhofaaLde
namespace Go.Proofs.Ytmmlelmkgnhofaa
open Go.ChangeShapes Go.WideShapes Go.ChangeAt Go.RowKit
set_option linter.unusedVariables false
set_option linter.unusedSimpArgs false
set_option maxHeartbeats 4000000
set_option maxRecDepth 100000

theorem same_bo (a b c d : Int) (w : World) : (Op.equalIn 10000 47 (.agg #[.int .i64 a, .int .i64 b, .int .i64 c, .int .i64 d]) (.agg #[.int .i64 a, .int .i64 b, .int .i64 c, .int .i64 d])).run Try.prog w = .ok true w := by
  have u3 := Try.underlying3
  have a3 := Try.isAgg3
  have z3 := Try.sizeOf3
  rw [show (10000 : Nat) = 9999 + 1 from rfl, Op.equalIn]
  simp only [Sem.run_bind, run_underlying Try.underlying47, Result.andThen_ok]
  go_simp
  done
theorem sameB_any (A A' : Option Addr) (n n' c c' : Nat) (l : List Bo) (w : World) (h : Kws bo4 w w.heap.size A n c l) (h' : Kws bo4 w w.heap.size A' n' c' l) :
    Calls Try.prog 22 #[.slice A n c, .slice A' n' c'] w fun e w' => e = .returned (.bool true) ∧ Below w.heap.size w w' := by
  obtain rfl : n = n' := h.len.symm.trans h'.len
  have H := Lib.hid h
  have H' := Lib.hid h'
  have hcap := h.cap
  have hsm := h.small
  have hcap' := h'.cap
  unfold maxLen at hsm
  clear h h'
  go_enter Try.func22, Try.ntmps22
  go_wp2
  go_loopw [5] (fun kv wr => ∃ (i : Nat), i ≤ n ∧ kv = .int .i64 i ∧ Hid (Below w.heap.size w wr)) (fun kv _ => n - (intOf kv).toNat)
  case atStart => exact ⟨0, by omega, rfl, Lib.hid (Below.refl _ _)⟩
  case round =>
    obtain ⟨i, hi, rfl, hh⟩ := hrel
    by_cases hin : i < n
    · have hi1 : (i : Int) < (n : Int) := by omega
      obtain ⟨b, o, x, hx, rfl, hb, g0, g1, g2, g3⟩ := (H.out.below hh.out).bo hin
      obtain ⟨b', o', x', hx', rfl, hb', h0, h1, h2, h3⟩ := (H'.out.below hh.out).bo hin
      obtain rfl : x = x' := by
        rw [hx] at hx'
        exact Option.some.inj hx'
      have heq := same_bo x.o x.h x.m x.c
      clear hx hx' hb hb'
      go_wp2
      go_quiet (fail)
      have HB3 := Lib.hid (Below.then hh.out (below_drewN (Below.refl wr.heap.size wr) nq) (Nat.le_refl _))
      clear hh g0 g1 g2 g3 h0 h1 h2 h3 heq
      go_wp2
      go_roundw
      case rel => exact ⟨i + 1, by omega, by go_num, HB3⟩
      case measure => simp [intOf]; omega
    · have hi1 : ¬ (i : Int) < (n : Int) := by omega
      have HB := hh
      clear hh
      go_wp2
      go_ret
      exact ⟨rfl, HB.out⟩
end Go.Proofs.Ytmmlelmkgnhofaa
