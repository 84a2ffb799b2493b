/-
  The law LayoutRaw as a walk. No conditions.
-/
import Derived.Test.YthchcgpbmkmfnaaLyd
import Derived.Test.YthchcgpbmkmfnaaAwk
import Derived.Test.YthchcgpbmkmfnaaOty
namespace Go.Proofs.Ythchcgpbmkmfnaa
open Go.ChangeShapes Go.WideShapes Go.RowKit
theorem layoutRaw_walk (n : Int) (A : Option Addr) (m c : Nat) (l : List (Int × Int)) (i : Int) (w : World) (h0 : (Lit.int .i64 n).wf = true) (h : IsExs w A m c l) (hi : (Lit.int .i64 i).wf = true) :
    Calls Try.prog 3 #[.agg #[.int .i64 n, .slice A m c], .int .i64 i] w fun e w' => e = .returned (.bool true) ∧ Below w.heap.size w w' :=
  layoutRaw_walkC lc n A m c l i w h0 h hi
end Go.Proofs.Ythchcgpbmkmfnaa
