/-
  A table (colour 1) beside two rows of the call's own: the handles that were issued (colour 3) and the live entries (colour 4). No conditions beyond those that each lemma states.
-/
import Derived.Test.YtaoojgnkbcoggaaHwl
import Derived.Test.YtaoojgnkbcoggaaHtr
import Derived.Test.YtaoojgnkbcoggaaHlq
namespace Go.Proofs.Ytaoojgnkbcoggaa
open Go.ChangeShapes Go.WideShapes Go.RowKit
set_option linter.unusedVariables false
set_option maxHeartbeats 4000000
set_option maxRecDepth 100000

structure Qd (B : Nat) (w : World) (c : Nat → Nat) (p : Nat) (t : Ht) (vE : Value) (E : List Int) (vL : Value) (L : List En) : Prop where
  tb : Htb w c 1 p t
  ev : OwC 3 han1 39 w c vE E
  lv : OwC 4 en5 44 w c vL L
  lo : ∀ g, g < B → c g = 0
  bd : B ≤ w.heap.size
section
variable {B p k : Nat} {w w1 : World} {c c' : Nat → Nat} {t t' : Ht} {vE vE' vL vL' : Value} {E E' : List Int} {L L' : List En}
theorem Qd.go (h : Qd B w c p t vE E vL L) (hb : Below w.heap.size w w1) : Qd B w1 (rc c w.heap.size 0) p t vE E vL L :=
  ⟨h.tb.kept (j := 0) (Kept.ofBelow hb) (by omega) (fun g hg => rc_old hg), h.ev.kept (j := 0) (Kept.ofBelow hb) (by omega) (fun g hg => rc_old hg), h.lv.kept (j := 0) (Kept.ofBelow hb) (by omega) (fun g hg => rc_old hg), fun g hg => by rw [rc_old (by have := h.bd; omega)]; exact h.lo g hg, Nat.le_trans h.bd hb.size⟩
/-- Behind a call that writes the table. -/
theorem Qd.call (h : Qd B w c p t vE E vL L) (h1 : Htb w1 (rc c w.heap.size 1) 1 p t') (hk : Kept c 1 w w1) : Qd B w1 (rc c w.heap.size 1) p t' vE E vL L :=
  ⟨h1, h.ev.kept hk (by omega) (fun g hg => rc_old hg), h.lv.kept hk (by omega) (fun g hg => rc_old hg), fun g hg => by rw [rc_old (by have := h.bd; omega)]; exact h.lo g hg, Nat.le_trans h.bd hk.size⟩
/-- Behind an append to the handles. -/
theorem Qd.appE (h : Qd B w c p t vE E vL L) (ho : OwnK han1 39 w1 0 vE' E') (hg : w.grownBy w1 vE.ownBlock) (hv : vE'.ownBlock = vE.ownBlock ∨ vE'.ownBlock = some w.heap.size) : Qd B w1 (cn c w.heap.size 3 vE') p t vE' E' vL L ∧ Kz c w w1 := by
  obtain ⟨h1, h2⟩ := h.ev.app ho hg hv
  exact ⟨⟨h.tb.kept h2 (by omega) (fun g hg => cn_old hg), h1, h.lv.kept h2 (by omega) (fun g hg => cn_old hg), fun g hg => by rw [cn_old (by have := h.bd; omega)]; exact h.lo g hg, Nat.le_trans h.bd h2.size⟩, Kz.ofKept h2 (by omega)⟩
/-- Behind an append to the entries. -/
theorem Qd.appL (h : Qd B w c p t vE E vL L) (ho : OwnK en5 44 w1 0 vL' L') (hg : w.grownBy w1 vL.ownBlock) (hv : vL'.ownBlock = vL.ownBlock ∨ vL'.ownBlock = some w.heap.size) : Qd B w1 (cn c w.heap.size 4 vL') p t vE E vL' L' ∧ Kz c w w1 := by
  obtain ⟨h1, h2⟩ := h.lv.app ho hg hv
  exact ⟨⟨h.tb.kept h2 (by omega) (fun g hg => cn_old hg), h.ev.kept h2 (by omega) (fun g hg => cn_old hg), h1, fun g hg => by rw [cn_old (by have := h.bd; omega)]; exact h.lo g hg, Nat.le_trans h.bd h2.size⟩, Kz.ofKept h2 (by omega)⟩
/-- The entries are laid anew. -/
theorem Qd.newL (h : Qd B w c p t vE E vL L) (ho : OwnK en5 44 w1 w.heap.size vL' L') (hb : Below w.heap.size w w1) : Qd B w1 (cn c w.heap.size 4 vL') p t vE E vL' L' :=
  ⟨h.tb.kept (j := 0) (Kept.ofBelow hb) (by omega) (fun g hg => cn_old hg), h.ev.kept (j := 0) (Kept.ofBelow hb) (by omega) (fun g hg => cn_old hg), ⟨ho.down (Nat.zero_le _), fun g hg => by
    unfold cn
    rw [if_neg (by have := (ho.ge hg).1; omega), if_pos hg]⟩, fun g hg => by rw [cn_old (by have := h.bd; omega)]; exact h.lo g hg, Nat.le_trans h.bd hb.size⟩
theorem Qd.below (h : Qd B w c p t vE E vL L) (hk : Kz c w w1) : Below B w w1 := hk.below h.lo h.bd
end
/-- What the law knows between two rounds. -/
def Qv (w0 : World) (N p : Nat) (vE vL : Value) (w : World) : Prop := Below w0.heap.size w0 w ∧ ∃ c t E L, Qd w0.heap.size w c p t vE E vL L ∧ Liv t N E L
theorem any_next {L : List En} {j : Nat} {x : En} {h : Int} (hx : L[j]? = some x) : (L.take (j + 1)).any (fun x => x.h == h) = ((L.take j).any (fun x => x.h == h) || x.h == h) := by
  rw [take_one hx, List.any_append]
  simp
/-- A region that draws its order, its steps taken by hand. -/
theorem wp_region_hands {P : Program} {id : Nat} {Q : Exit → Act → World → Prop} {a : Act} {W : World} {l : List Oper} (n : Nat) (S : World → Prop) (hm : P.follows .mixedOrders = true) (hn : l.length = n)
    (h : wpAnyH P .any l.toArray Q S n (Array.replicate n false) a W.drew) : (Code.region id l.toArray true).wp P Q a W := by
  subst hn
  refine wp_region_any hm ?_
  have := wpAny_of_held _ _ _ _ h
  simpa using this
theorem run_noneE {ρ : Operand → Value} {o : Oper} (h : o.op = .buildSlice 55 0 #[]) (w : World) : (execOp ρ o).run Try.prog w = .ok (.value (.slice (some ⟨w.heap.size, 0, none⟩) 0 0)) (w.alloc (.cells #[] 44)) := by
  unfold execOp
  simp only [h]
  go_simp
end Go.Proofs.Ytaoojgnkbcoggaa
