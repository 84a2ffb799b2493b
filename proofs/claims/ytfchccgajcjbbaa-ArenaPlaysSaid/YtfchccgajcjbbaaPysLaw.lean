/-
  The law ArenaPlays as a walk: it returns true and changes nothing that was there. No conditions.
-/
import Derived.Test.YtfchccgajcjbbaaAlk
namespace Go.Proofs.Ytfchccgajcjbbaa
open Go.ChangeShapes Go.WideShapes Go.ChangeAt Go.RowKit
set_option maxHeartbeats 8000000
set_option maxRecDepth 100000

theorem arenaPlays_walk (r : Int) (At : Option Addr) (m ct : Nat) (w : World) (hr : (Lit.int .u8 r).wf = true) (ht : Hex w w.heap.size At m ct) :
    Calls Try.prog 3 #[.int .u8 r, .slice At m ct] w fun e w' => e = .returned (.bool true) ∧ Below w.heap.size w w' := by
  have H := Lib.hid (built_any r At m ct w (byte_bd hr) ht)
  clear hr ht
  go_enter Try.func3, Try.ntmps3
  go_wp2_with fail
  refine H.out.mono ?_
  rintro e w1 ⟨c, a, p, g, q, g2, F, A, U, bs, rfl, hs, _, hu, hb, _⟩
  have HS1 := Lib.hid hs
  have HB1 := Lib.hid hb
  clear H hs hb
  go_wp2_with fail
  refine (awake_any w1).mono ?_
  rintro e w2 ⟨rfl, hb⟩
  have HS2 := Lib.hid (HS1.out.go hb)
  have HB2 := Lib.hid (Below.then HB1.out hb (Nat.le_refl _))
  clear hb HS1 HB1
  go_wp2_with fail
  refine (alike_any w2 c a p g q g2 F A U bs HS2.out (by omega)).mono ?_
  rintro e w3 ⟨rfl, hb⟩
  have HB3 := Lib.hid (Below.then HB2.out hb (Nat.le_refl _))
  clear hb HS2 HB2
  go_wp2
  go_ret
  exact ⟨rfl, HB3.out⟩
end Go.Proofs.Ytfchccgajcjbbaa
