/-
  The law ArenaRaw as a walk: it returns true and changes nothing that was there. No conditions.
-/
import Derived.Test.YtfchccgajcjbbaaRawA
import Derived.Test.YtfchccgajcjbbaaRawB
import Derived.Test.YtfchccgajcjbbaaOpen
namespace Go.Proofs.Ytfchccgajcjbbaa
open Go.ChangeShapes Go.WideShapes Go.ChangeAt Go.RowKit

theorem arenaRaw_walk (r : Int) (At : Option Addr) (m ct : Nat) (ex ey dx dy k wd n v at_ : Int) (w : World) (hr : (Lit.int .u8 r).wf = true) (ht : Hex w w.heap.size At m ct) (_he : (Lit.int .i64 ex).wf = true) (_he2 : (Lit.int .i64 ey).wf = true) (_hd : (Lit.int .i64 dx).wf = true) (_hd2 : (Lit.int .i64 dy).wf = true) (_hk : (Lit.int .i64 k).wf = true) (_hw : (Lit.int .i64 wd).wf = true) (hn : (Lit.int .i64 n).wf = true) (hv : (Lit.int .u64 v).wf = true) (hat : (Lit.int .u8 at_).wf = true) :
    Calls Try.prog 4 #[.int .u8 r, .slice At m ct, .agg #[.int .i64 ex, .int .i64 ey], .agg #[.int .i64 dx, .int .i64 dy], .int .i64 k, .int .i64 wd, .int .i64 n, .int .u64 v, .int .u8 at_] w fun e w' => e = .returned (.bool true) ∧ Below w.heap.size w w' := by
  by_cases h : n ≤ 100
  · exact arenaRaw_le r At m ct ex ey dx dy k wd n v at_ w hr ht _he _he2 _hd _hd2 _hk _hw hn hv hat h
  · exact arenaRaw_gt r At m ct ex ey dx dy k wd n v at_ w hr ht _he _he2 _hd _hd2 _hk _hw hn hv hat h
end Go.Proofs.Ytfchccgajcjbbaa
