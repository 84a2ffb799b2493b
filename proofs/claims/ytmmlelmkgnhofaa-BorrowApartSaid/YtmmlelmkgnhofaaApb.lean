/-
  The borrows of one object are not touched by steps at other objects. No conditions beyond those that each lemma states.
-/
import Derived.Test.YtmmlelmkgnhofaaPvb
namespace Go.Proofs.Ytmmlelmkgnhofaa
open Go.ChangeShapes Go.WideShapes Go.RowKit
set_option linter.unusedVariables false
set_option linter.unusedSimpArgs false
set_option maxHeartbeats 4000000

theorem lend_of {q o h m : Int} {L : List Bo} (h1 : q ≠ o) : ofL q (lendL o h m L) = ofL q L := by
  unfold lendL
  split
  · exact of_put_other h1
  · rfl
theorem stp_of {q x0 x1 x2 x3 : Int} {L : List Bo} (h0 : ¬ x0 % 12 = 1) (h1 : q ≠ x1 % 4) : ofL q (stpL x0 x1 x2 x3 L) = ofL q L := by
  unfold stpL
  split
  · exact of_endO_ne h1
  · split
    · unfold relL
      split
      · rfl
      · split
        · exact of_rem_ne h1
        · exact of_put_other h1
    · exact lend_of h1
theorem OwnK.kz {t : TypeId} {w w' : World} {c : Nat → Nat} {base : Nat} {v : Value} {l : List Bo} (h : OwnK bo4 t w base v l) (hk : Kz c w w') (h0 : ∀ g, v.ownBlock = some g → c g = 0) : OwnK bo4 t w' base v l :=
  h.same (fun g cs hg hb hc => (hk.block g (Array.getElem?_eq_some_iff.1 hc).1 (h0 g hg)).trans hc)
/-- What the law knows in its second loop: the row that it has kept still reads as the borrows of the object. -/
def Ap (w0 : World) (N p m : Nat) (v : Value) (w : World) : Prop := Below w0.heap.size w0 w ∧ ∃ c L, Two w0.heap.size N w c p m L ∧ OwnK bo4 47 w w0.heap.size v (ofL 3 L) ∧ ∀ g, v.ownBlock = some g → c g = 0
theorem Ap.go {w0 w w' : World} {N p m : Nat} {v : Value} (h : Ap w0 N p m v w) (hb : Below w.heap.size w w') : Ap w0 N p m v w' := by
  obtain ⟨hB, c, L, hT, ho, h0⟩ := h
  exact ⟨Below.then hB hb (Nat.le_refl _), _, L, hT.go hb, ho.below hb, fun g hg => by rw [rc_old (ho.ge hg).2]; exact h0 g hg⟩
theorem Ap.mono {w0 w : World} {N M p m : Nat} {v : Value} (h : Ap w0 N p m v w) (hN : N ≤ M) : Ap w0 M p m v w := by
  obtain ⟨hB, c, L, hT, ho, h0⟩ := h
  exact ⟨hB, c, L, hT.mono hN, ho, h0⟩
theorem Ap.start {w0 w w' : World} {N p m : Nat} {c : Nat → Nat} {L : List Bo} {v : Value} (hB : Below w0.heap.size w0 w) (hT : Two w0.heap.size N w c p m L) (ho : OwnK bo4 47 w' w.heap.size v (ofL 3 L)) (hb : Below w.heap.size w w') : Ap w0 N p m v w' :=
  ⟨Below.then hB hb (Nat.le_refl _), _, L, hT.go hb, ho.down hT.bd, fun g hg => rc_new (ho.ge hg).1⟩
theorem Ap.step {w0 w w' : World} {N p m : Nat} {c : Nat → Nat} {L L' : List Bo} {v : Value} (hB : Below w0.heap.size w0 w) (hT : Two w0.heap.size N w c p m L) (ho : OwnK bo4 47 w w0.heap.size v (ofL 3 L)) (h0 : ∀ g, v.ownBlock = some g → c g = 0)
    (hL : ofL 3 L' = ofL 3 L) {e : Ending} (h : StE w0.heap.size N w c p m L' e w') : e = .returned (.bool true) ∧ Ap w0 (N + 1) p m v w' := by
  obtain ⟨he, c', h1, h2, h3⟩ := h
  exact ⟨he, hB.trans (h2.below hT.lo hT.bd), c', L', h1, by rw [hL]; exact ho.kz h2 h0, fun g hg => by rw [h3 g (ho.ge hg).2]; exact h0 g hg⟩
end Go.Proofs.Ytmmlelmkgnhofaa
