/-
  Contract of the law's step over slots and their model, over the bundle of the landed contracts. Conditions: at most 4096 slots.
-/
import Derived.Test.YtaoojgnkbcoggaaGpc
namespace Go.Proofs.Ytaoojgnkbcoggaa
open Go.ChangeShapes Go.WideShapes Go.RowKit
set_option linter.unusedVariables false
set_option maxHeartbeats 8000000
set_option maxRecDepth 100000

/-- Slots (colour 1) and their model (colour 2) in step; what lies below B has the colour 0. -/
structure Duet (Sl : World → (Nat → Nat) → Nat → Nat → Gs → Prop) (B N : Nat) (w : World) (p m : Nat) (s : Gs) : Prop where
  ex : ∃ c : Nat → Nat, Sl w c 1 p s ∧ Mgs w c 2 m s ∧ ∀ g, g < B → c g = 0
  wf : s.Wf N
  bd : B ≤ w.heap.size
section
variable {Sl : World → (Nat → Nat) → Nat → Nat → Gs → Prop} {B N p m : Nat} {w w2 w3 : World} {s s' : Gs} {c : Nat → Nat}
theorem Duet.go (C : Pc Sl) (h : Duet Sl B N w p m s) (hb : Below w.heap.size w w2) : Duet Sl B N w2 p m s := by
  obtain ⟨c, h1, h2, h3⟩ := h.ex
  exact ⟨⟨c, C.go h1 hb, h2.go hb, h3⟩, h.wf, Nat.le_trans h.bd hb.size⟩
/-- Beside a box. -/
theorem Duet.box (C : Pc Sl) (h : Duet Sl B N w p m s) (o : Obj) : ∃ c : Nat → Nat, Sl (w.alloc o) c 1 p s ∧ Mgs (w.alloc o) c 2 m s ∧ (∀ g, g < B → c g = 0) ∧ c w.heap.size = 0 := by
  obtain ⟨c, h1, h2, h3⟩ := h.ex
  have hb : Below w.heap.size w (w.alloc o) := (Below.refl _ _).alloc (Nat.le_refl _) _
  have e : ∀ g, g < w.heap.size → (fun g => if g < w.heap.size then c g else 0) g = c g := fun g hg => if_pos hg
  exact ⟨fun g => if g < w.heap.size then c g else 0, C.kept h1 (j := 2) (Kept.ofBelow hb) (by omega) e, h2.kept (j := 1) (Kept.ofBelow hb) (by omega) e, fun g hg => (e g (by have := h.bd; omega)).trans (h3 g hg), if_neg (by omega)⟩
/-- Behind a call of the one and a call of the other. -/
theorem Duet.both (C : Pc Sl) (h0 : ∀ g, g < B → c g = 0) (hB : B ≤ w.heap.size) (h1 : Sl w2 (rc c w.heap.size 1) 1 p s') (k1 : Kept c 1 w w2) (h2 : Mgs w3 (rc (rc c w.heap.size 1) w2.heap.size 2) 2 m s') (k2 : Kept (rc c w.heap.size 1) 2 w2 w3) (hW : s'.Wf N) :
    Duet Sl B N w3 p m s' ∧ Below B w w3 := by
  have hz := k1.size
  have b2 : Below B w2 w3 := k2.below (fun g hg => by rw [rc_old (by omega), h0 g hg]; omega) (by omega)
  refine ⟨⟨⟨_, C.kept h1 k2 (by omega) (fun g hg => rc_old hg), h2, fun g hg => by rw [rc_old (by omega), rc_old (by omega)]; exact h0 g hg⟩, hW, by have := b2.size; have := k2.size; omega⟩, (k1.below (fun g hg => by rw [h0 g hg]; omega) hB).trans b2⟩
end
end Go.Proofs.Ytaoojgnkbcoggaa
