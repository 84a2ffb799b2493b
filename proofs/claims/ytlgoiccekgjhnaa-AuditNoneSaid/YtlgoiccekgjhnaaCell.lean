/-
  Ranges over functions: what a round keeps, cells that may be written, the block for deferred calls, a return past one mark. No conditions beyond those that each lemma states.
-/
import Derived.Test.YtlgoiccekgjhnaaRows
import Derived.Test.YtlgoiccekgjhnaaLater
import Derived.WalkKit
import Derived.ProofKit
import Derived.Outline
import Derived.WalkLawsBesides
import Derived.WalkSpells
import Derived.RangeFuncNested
import Derived.RangeFuncBound
import Derived.RangeFuncCalls
import Derived.RangeFuncLeaves
import Derived.RangeFuncFrom
import Derived.RangeFuncBox
import Derived.Shelf.Abstract
import Derived.Shelf.RegionOpen
import Derived.OwnWalkIn
import Derived.TacticsInMore
import Derived.LoopNIn
import Derived.LoopIn
namespace Go.Proofs.Ytlgoiccekgjhnaa
open Go.ChangeShapes Go.WideShapes Go.ChangeAt Go.RowKit Go.Shelf
set_option maxHeartbeats 2000000

/-- What a round keeps: every block of cells from n₁ on. -/
def Kp (n₁ : Nat) (A B : World) : Prop := A.heap.size ≤ B.heap.size ∧ ∀ (g : Nat) (cs : Array Value) (t : TypeId) (fr : Nat × Nat), n₁ ≤ g → A.heap[g]? = some (.cells cs t fr) → B.heap[g]? = some (.cells cs t fr)
theorem Kp.refl (n₁ : Nat) (A : World) : Kp n₁ A A := ⟨Nat.le_refl _, fun _ _ _ _ _ h => h⟩
theorem Kp.t {n₁ : Nat} {A B C : World} (h : Kp n₁ A B) (k : Kp n₁ B C) : Kp n₁ A C := ⟨Nat.le_trans h.1 k.1, fun g cs t fr hg hc => k.2 g cs t fr hg (h.2 g cs t fr hg hc)⟩
theorem Kp.b {n₁ : Nat} (w : World) (W : World) (l : Nat) (o o' : Obj) (_hl : w.heap.size ≤ l) (h : W.heap[l]? = some o) (hc : o.isCells = false) (_hw : o.isWalk = false) : Kp n₁ W (W.putObj l o') :=
  ⟨by simp, fun g cs t fr _ hcell => by
    have hne : g ≠ l := fun e => by
      rw [e, h] at hcell
      cases hcell
      simp [Obj.isCells] at hc
    rw [World.putObj_heap_other hne]
    exact hcell⟩
theorem Kp.below {n₁ : Nat} {A B : World} (h : Below A.heap.size A B) : Kp n₁ A B :=
  ⟨h.size, fun g cs t fr _ hcell => by
    rw [h.block g (Array.getElem?_eq_some_iff.1 hcell).1]
    exact hcell⟩
theorem Kp.set {n₁ : Nat} {A : World} {b : Nat} (h1 : b < n₁) (u : Value) : Kp n₁ A (A.setCell ⟨b, 0, none⟩ u) :=
  ⟨by simp, fun g cs t fr hg hcell => by
    have := (grownBy_setCell' A b u).block g (Array.getElem?_eq_some_iff.1 hcell).1 (fun e => by cases e; omega)
    rw [this]
    exact hcell⟩
theorem keepsOthers_below {A B : World} (h : Below A.heap.size A B) : KeepsOthers A B :=
  ⟨h.size, fun k o hk _ => by rw [h.block k (Array.getElem?_eq_some_iff.1 hk).1]; exact hk⟩
/-- A block of one cell that may be written. -/
def Cel (w : World) (b : Nat) (t : TypeId) (v : Value) : Prop := w.heap[b]? = some (.cells #[v] t (0, 0))
section
variable {w w' : World} {b b' B : Nat} {t : TypeId} {v u : Value}
theorem Cel.lt (h : Cel w b t v) : b < w.heap.size := (Array.getElem?_eq_some_iff.1 h).1
theorem Cel.new : Cel (w.alloc (.cells #[v] t)) w.heap.size t v := heap_alloc_new w _
theorem Cel.below (h : Cel w b t v) (hb : Below B w w') (hB : b < B) : Cel w' b t v := (hb.block b hB).trans h
theorem Cel.go (h : Cel w b t v) (hb : Below w.heap.size w w') : Cel w' b t v := h.below hb h.lt
theorem Cel.cell (h : Cel w b t v) : w.cell? ⟨b, 0, none⟩ = some v := cell_of_row w b 0 _ _ _ h
theorem Cel.fr (h : Cel w b t v) : w.frozen? ⟨b, 0, none⟩ = false := frozen_of_row w b 0 _ _ h
theorem Cel.set (h : Cel w b t v) (u : Value) : Cel (w.setCell ⟨b, 0, none⟩ u) b t u := heap_setCell_same w b 0 _ _ _ h
theorem Cel.other (h : Cel w b t v) (hne : b ≠ b') (u : Value) : Cel (w.setCell ⟨b', 0, none⟩ u) b t v := Boxed.other (W := w) (B := b) (t := t) (v := v) h hne u
end
theorem cel_own {β : Type} (N b : Nat) (t : TypeId) (f : β → Value) : OwnFrom N (fun s W => Cel W b t (f s)) := Go.Own.from (boxed_own b t f) N
/-- The block for the rounds' deferred calls is empty and open. -/
def Df (w : World) (D : Nat) : Prop := w.heap[D]? = some (.deferred (some []))
section
variable {w w' : World} {D D' b B : Nat} {t : TypeId} {v u : Value}
theorem Df.lt (h : Df w D) : D < w.heap.size := (Array.getElem?_eq_some_iff.1 h).1
theorem Df.go (h : Df w D) (hb : Below w.heap.size w w') : Df w' D := (hb.block D h.lt).trans h
theorem Df.set (h : Df w D) (b : Addr) (u : Value) : Df (w.setCell b u) D := (KeepsOthers.setCell w b u).same D _ h rfl
theorem Df.put (h : Df w D) (hne : D ≠ D') (o : Obj) : Df (w.putObj D' o) D := (World.putObj_heap_other hne).trans h
theorem Cel.put (h : Cel w b t v) (hd : Df w D) (o : Obj) : Cel (w.putObj D o) b t v := (World.putObj_heap_other (fun e => by
  subst e
  unfold Cel at h
  unfold Df at hd
  rw [h] at hd
  cases hd)).trans h
theorem Df.below {a : World} (h : Df w D) (hD : B ≤ D) (hb : Below B a w) (o : Obj) : Below B a (w.putObj D o) := hb.grown (grownBy_putObj' w D o) (by have := h.lt; omega) (fun k e => by cases e; exact hD)
end
theorem leave_one {F : Fence} {n : Nat} {P : Program} {fn : Func} {tmps : Array Value} {R : Ending → World → Prop} {ds : List Deferred} {D : Nat} {W : World} (h : Df W D)
    (k : LeavesInM F n P fn tmps R ds .returning (W.putObj D (.deferred none))) : LeavesInM F n P fn tmps R ({ target := .collected D, args := #[] } :: ds) .returning W := ⟨by simp, .inl ⟨_, _, rfl, run_takeDeferred h, k⟩⟩
end Go.Proofs.Ytlgoiccekgjhnaa
