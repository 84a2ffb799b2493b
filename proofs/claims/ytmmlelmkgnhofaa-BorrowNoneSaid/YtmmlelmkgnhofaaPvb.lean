/-
  What the laws of stage 14 know of a ledger and its model between two rounds. No conditions beyond those that each lemma states.
-/
import Derived.Test.YtmmlelmkgnhofaaBal
import Derived.Test.YtmmlelmkgnhofaaFou
namespace Go.Proofs.Ytmmlelmkgnhofaa
open Go.ChangeShapes Go.WideShapes Go.RowKit
set_option linter.unusedVariables false
set_option linter.unusedSimpArgs false
set_option maxHeartbeats 8000000
set_option maxRecDepth 100000

/-- A model is made of a row of its own. -/
theorem Two.new {B N : Nat} {w w1 : World} {c : Nat → Nat} {p n cap : Nat} {A : Option Addr} {L : List Bo} (hl : Led w c 1 p L) (lo : ∀ g, g < B → c g = 0) (wl : Wl N L) (bd : B ≤ w.heap.size) (hb : Below w.heap.size w w1)
    (ho : OwnK bo4 47 w1 w.heap.size (.slice A n cap) L) : Two B N (w1.alloc (.cells #[.slice A n cap] 28)) (rc c w.heap.size 2) p w1.heap.size L := by
  have hz := hb.size
  have hb2 : Below w.heap.size w (w1.alloc (.cells #[.slice A n cap] 28)) := hb.alloc hz _
  refine ⟨hl.kept (j := 2) (Kept.ofBelow hb2) (by omega) (fun g hg => rc_old hg), ⟨rc_new hz, A, n, cap, heap_alloc_new w1 _, (ho.alloc _).down (Nat.zero_le _), fun g hg => rc_new (ho.ge hg).1⟩, fun g hg => by rw [rc_old (by omega)]; exact lo g hg, wl, Nat.le_trans bd hb2.size⟩
/-- What stands behind the two makings. -/
theorem Two.made {B : Nat} {w wa : World} {p : Nat} (h1 : Led wa (rc (fun _ => 0) w.heap.size 1) 1 p []) (b1 : Below w.heap.size w wa) (hB : B ≤ w.heap.size) :
    Two B 0 (wa.alloc (.cells #[.slice none 0 0] 28)) (rc (rc (fun _ => 0) w.heap.size 1) wa.heap.size 2) p wa.heap.size [] :=
  Two.new h1 (fun g hg => by rw [rc_old (by omega)]) Wl.nil (Nat.le_trans hB b1.size) (Below.refl _ _) (OwnK.nil _ _ _ _)
/-- What the law knows between two rounds. -/
def Pv (w0 : World) (N p m : Nat) (w : World) : Prop := Below w0.heap.size w0 w ∧ ∃ c L, Two w0.heap.size N w c p m L
theorem Pv.step {w0 w w' : World} {N p m : Nat} {c : Nat → Nat} {L L' : List Bo} (hB : Below w0.heap.size w0 w) (hT : Two w0.heap.size N w c p m L) {e : Ending} (h : StE w0.heap.size N w c p m L' e w') :
    e = .returned (.bool true) ∧ Below w0.heap.size w0 w' ∧ ∃ c', Two w0.heap.size (N + 1) w' c' p m L' := by
  obtain ⟨he, c', h1, h2, _⟩ := h
  exact ⟨he, hB.trans (h2.below hT.lo hT.bd), c', h1⟩
theorem Fou.load {w : World} {a2 : Option Addr} {len2 cap2 i : Nat} (h : Fou w w.heap.size a2 len2 cap2) (hi : i < len2) :
    ∃ b o x0 x1 x2 x3, a2 = some ⟨b, o, none⟩ ∧ (∀ W, Below w.heap.size w W → W.cell? ⟨b, o + i * 4, none⟩ = some (.int .u8 x0) ∧ W.cell? ⟨b, o + i * 4 + 1, none⟩ = some (.int .u8 x1) ∧ W.cell? ⟨b, o + i * 4 + 2, none⟩ = some (.int .u8 x2) ∧ W.cell? ⟨b, o + i * 4 + 3, none⟩ = some (.int .u8 x3)) ∧ (0 ≤ x0 ∧ x0 ≤ 255) ∧ (0 ≤ x1 ∧ x1 ≤ 255) ∧ (0 ≤ x2 ∧ x2 ≤ 255) ∧ 0 ≤ x3 ∧ x3 ≤ 255 := by
  obtain ⟨b, o, x0, x1, x2, x3, e, hlt, h0, h1, h2, h3, h6⟩ := h.cells i hi
  exact ⟨b, o, x0, x1, x2, x3, e, fun W hW => ⟨(hW.cell (p := ⟨b, _, none⟩) hlt).trans h0, (hW.cell (p := ⟨b, _, none⟩) hlt).trans h1, (hW.cell (p := ⟨b, _, none⟩) hlt).trans h2, (hW.cell (p := ⟨b, _, none⟩) hlt).trans h3⟩, h6⟩
end Go.Proofs.Ytmmlelmkgnhofaa
