/-
  What the laws know of a table and its model between two rounds. No conditions beyond those that each lemma states.
-/
import Derived.Test.YtaoojgnkbcoggaaHsp
namespace Go.Proofs.Ytaoojgnkbcoggaa
open Go.ChangeShapes Go.WideShapes Go.RowKit
set_option linter.unusedVariables false
set_option linter.unusedSimpArgs false
set_option maxHeartbeats 8000000
set_option maxRecDepth 100000

theorem ns_ok {n first : Int} (h : 0 ≤ n ∧ n ≤ 4096) (h' : 1 ≤ first ∧ first ≤ 4294967295) : nsE n first = 0 := if_neg (by omega)
/-- What stands behind the two makings. -/
theorem Tri.made {B : Nat} {w wa wb : World} {p m n : Nat} {first : Int} (hf : 1 ≤ first ∧ first ≤ 4294967295) (h1 : Htb wa (rc (fun _ => 0) w.heap.size 1) 1 p (Ht.new n first)) (b1 : Below w.heap.size w wa) (h2 : Hmb wb (rc (rc (fun _ => 0) w.heap.size 1) wa.heap.size 2) 2 m (Ht.new n first)) (b2 : Below wa.heap.size wa wb) (hB : B ≤ w.heap.size) :
    Tri B n wb (rc (rc (fun _ => 0) w.heap.size 1) wa.heap.size 2) p m (Ht.new n first) ∧ Below w.heap.size w wb := by
  have z1 := b1.size
  have z2 := b2.size
  exact ⟨⟨h1.kept (j := 2) (Kept.ofBelow b2) (by omega) (fun g hg => rc_old hg), h2, fun g hg => by rw [rc_old (by omega), rc_old (by omega)], Ht.wf_new hf, by omega⟩, Below.then b1 b2 (Nat.le_refl _)⟩
/-- What the law knows between two rounds. -/
def Pv (w0 : World) (N p m : Nat) (A : Option Addr) (n c : Nat) (w : World) : Prop := Below w0.heap.size w0 w ∧ ∃ cf t l, Tri w0.heap.size N w cf p m t ∧ Evr w cf A n c l
/-- A region that draws its order, its steps taken by hand. -/
theorem wp_region_hand {P : Program} {id : Nat} {Q : Exit → Act → World → Prop} {a : Act} {W : World} {l : List Oper} (n : Nat) (S : World → Prop) (hm : P.follows .mixedOrders = true) (hn : l.length = n)
    (h : wpAnyH P .any l.toArray Q S n (Array.replicate n false) a W.drew) : (Code.region id l.toArray true).wp P Q a W := by
  subst hn
  refine wp_region_any hm ?_
  have := wpAny_of_held _ _ _ _ h
  simpa using this
end Go.Proofs.Ytaoojgnkbcoggaa
