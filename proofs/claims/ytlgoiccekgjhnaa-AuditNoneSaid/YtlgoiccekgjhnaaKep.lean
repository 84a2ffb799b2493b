/-
  Blocks of memory with colours: what a call leaves as it was that writes blocks of one colour only. No conditions.
-/
import Derived.Test.YtlgoiccekgjhnaaPair
namespace Go.Proofs.Ytlgoiccekgjhnaa
open Go.ChangeShapes Go.WideShapes Go.RowKit
set_option maxHeartbeats 4000000

/-- What has a colour other than k has not changed; nothing has gone. -/
structure Kept (c : Nat → Nat) (k : Nat) (w w' : World) : Prop where
  os : w'.os = w.os
  tape : w'.tape = w.tape
  output : w'.output = w.output
  size : w.heap.size ≤ w'.heap.size
  block : ∀ g, g < w.heap.size → c g ≠ k → w'.heap[g]? = w.heap[g]?
/-- Blocks from n on get the colour k. -/
def rc (c : Nat → Nat) (n k : Nat) : Nat → Nat := fun g => if g < n then c g else k
theorem rc_old {c : Nat → Nat} {n k g : Nat} (h : g < n) : rc c n k g = c g := if_pos h
theorem rc_new {c : Nat → Nat} {n k g : Nat} (h : n ≤ g) : rc c n k g = k := if_neg (by omega)
section
variable {c : Nat → Nat} {k : Nat} {w w' w'' : World}
theorem Kept.refl : Kept c k w w := ⟨rfl, rfl, rfl, Nat.le_refl _, fun _ _ _ => rfl⟩
theorem Kept.ofBelow (h : Below w.heap.size w w') : Kept c k w w' := ⟨h.os, h.tape, h.output, h.size, fun g hg _ => h.block g hg⟩
theorem Kept.ofGrown {r : Option Nat} (h : w.grownBy w' r) (hr : ∀ g, r = some g → c g = k) : Kept c k w w' := ⟨h.os, h.tape, h.output, h.size, fun g hg hc => h.block g hg (fun e => hc (hr g e.symm))⟩
theorem Kept.trans (h : Kept c k w w') (h' : Kept c k w' w'') : Kept c k w w'' :=
  ⟨h'.os.trans h.os, h'.tape.trans h.tape, h'.output.trans h.output, Nat.le_trans h.size h'.size, fun g hg hc => (h'.block g (Nat.lt_of_lt_of_le hg h.size) hc).trans (h.block g hg hc)⟩
theorem Kept.below {B : Nat} (h : Kept c k w w') (hB : ∀ g, g < B → c g ≠ k) (hw : B ≤ w.heap.size) : Below B w w' := ⟨h.os, h.tape, h.output, h.size, fun g hg => h.block g (by omega) (hB g hg)⟩
theorem OwnE.keptC {t : TypeId} {base : Nat} {v : Value} {l : List (Int × Int)} (h : OwnE t w base v l) (hk : Kept c k w w') (hne : ∀ g, v.ownBlock = some g → c g ≠ k) : OwnE t w' base v l := by
  refine ⟨⟨h.1.1, ?_⟩, h.2⟩
  rcases h.1.2 with h0 | ⟨g, cap, cur, rfl, hbg, hg, hnc, hm, hs, ht⟩
  · exact .inl h0
  · exact .inr ⟨g, cap, cur, rfl, hbg, (hk.block g (Array.getElem?_eq_some_iff.1 hg).1 (hne g rfl)).trans hg, hnc, hm, hs, ht⟩
end
theorem OwnE.blk_lt {t : TypeId} {w : World} {base : Nat} {v : Value} {l : List (Int × Int)} (h : OwnE t w base v l) {g : Nat} (hg : v.ownBlock = some g) : g < w.heap.size := by
  rcases h.1.2 with ⟨rfl, _⟩ | ⟨g', cap, cur, rfl, hbg, hg', hnc, hm, hs, ht⟩
  · cases hg
  · cases hg
    exact (Array.getElem?_eq_some_iff.1 hg').1
theorem OwnE.blk_ge {t : TypeId} {w : World} {base : Nat} {v : Value} {l : List (Int × Int)} (h : OwnE t w base v l) {g : Nat} (hg : v.ownBlock = some g) : base ≤ g := by
  rcases h.1.2 with ⟨rfl, _⟩ | ⟨g', cap, cur, rfl, hbg, hg', hnc, hm, hs, ht⟩
  · cases hg
  · cases hg
    exact hbg
theorem OwnE.exs {t : TypeId} {w : World} {base n c : Nat} {A : Option Addr} {l : List (Int × Int)} (h : OwnE t w base (.slice A n c) l) : Exs w w.heap.size A n c l := by
  obtain ⟨A', n', c', e, hx⟩ := h.shape
  cases e
  exact hx

end Go.Proofs.Ytlgoiccekgjhnaa
