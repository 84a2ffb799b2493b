/-
  Rows of pairs beside other memory: what stays as it was. No conditions beyond those that each lemma states.
-/
import Derived.Test.YtfchccgajcjbbaaCat
import Derived.Deep.RegionHeld3
namespace Go.Proofs.Ytfchccgajcjbbaa
open Go.ChangeShapes Go.WideShapes Go.ChangeAt Go.RowKit
set_option maxHeartbeats 800000
set_option maxRecDepth 100000

theorem OwnE.apart {t : TypeId} {w : World} {base : Nat} {v : Value} {l : List (Int × Int)} (h : OwnE t w base v l) {a : Addr} (ha : a.block < base) (u : Value) : OwnE t (w.setCell a u) base v l :=
  ⟨ownsRow_setCell_below h.1 ha u, h.2⟩
theorem OwnE.drewN {t : TypeId} {w : World} {base : Nat} {v : Value} {l : List (Int × Int)} (h : OwnE t w base v l) (k : Nat) : OwnE t (w.drewN k) base v l := h.below (below_drewN (Below.refl _ _) k)
theorem Exs.newAt (w : World) (N : Nat) (hN : w.heap.size = N) (l : List (Int × Int)) (cs : Array Value) (e : TypeId) (n : Nat) (hcs : cs.toList = ev l) (hn : l.length = n) (hl : n ≤ maxLen) (hf : Fits l) :
    Exs (w.alloc (.cells cs e)) (N + 1) (some ⟨N, 0, none⟩) n n l := by
  subst hN
  exact Exs.new w l cs e n hcs hn hl hf
end Go.Proofs.Ytfchccgajcjbbaa
