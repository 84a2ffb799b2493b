/-
  Pools in memory: what it means that a block is a pool of some items, how that is kept; what Take takes and leaves, as plain functions. No conditions beyond those that each lemma states.
-/
import Derived.Test.YtaoojgnkbcoggaaCol
import Derived.Test.YtaoojgnkbcoggaaCell
namespace Go.Proofs.Ytaoojgnkbcoggaa
open Go.ChangeShapes Go.WideShapes Go.RowKit
set_option linter.unusedVariables false
set_option maxHeartbeats 4000000
set_option maxRecDepth 100000

/-- The index that a draw chooses, the item that Take returns, the items that it leaves. -/
def ix {α : Type} (l : List α) (d : Int) : Nat := (d % (l.length : Int)).toNat
def tkX {α : Type} (z : α) (l : List α) (d : Int) : α := l.getD (ix l d) z
def tkL {α : Type} (z : α) (l : List α) (d : Int) : List α := (l.set (ix l d) (l.getD (l.length - 1) z)).take (l.length - 1)
section
variable {α β : Type} {z : α} {l : List α} {d : Int}
theorem ix_lt (h : l ≠ []) : ix l d < l.length ∧ (ix l d : Int) = d % (l.length : Int) := by
  have hp : 0 < l.length := List.length_pos_iff.2 h
  have h1 := Int.emod_nonneg d (show (l.length : Int) ≠ 0 by omega)
  have h2 := Int.emod_lt_of_pos d (show (0 : Int) < (l.length : Int) by omega)
  unfold ix
  omega
theorem tkL_len : (tkL z l d).length = l.length - 1 := by
  unfold tkL
  rw [List.length_take, List.length_set]
  omega
theorem tk_nil : tkX z ([] : List α) d = z ∧ tkL z ([] : List α) d = [] := ⟨rfl, rfl⟩
theorem tkX_map (f : α → β) (z' : β) (h : l ≠ []) : tkX z' (l.map f) d = f (tkX z l d) := by
  have h1 := (ix_lt (d := d) h).1
  unfold tkX
  have e : ix (l.map f) d = ix l d := by unfold ix; rw [List.length_map]
  rw [e, List.getD_eq_getElem?_getD, List.getD_eq_getElem?_getD, List.getElem?_map, List.getElem?_eq_getElem h1]
  rfl
theorem tkL_map (f : α → β) (z' : β) : tkL z' (l.map f) d = (tkL z l d).map f := by
  unfold tkL
  have e : ix (l.map f) d = ix l d := by unfold ix; rw [List.length_map]
  rw [e, List.map_take, List.map_set, List.length_map]
  by_cases h : l = []
  · subst h
    rfl
  · have hp : 0 < l.length := List.length_pos_iff.2 h
    have e2 : (l.map f).getD (l.length - 1) z' = f (l.getD (l.length - 1) z) := by
      rw [List.getD_eq_getElem?_getD, List.getD_eq_getElem?_getD, List.getElem?_map, List.getElem?_eq_getElem (show l.length - 1 < l.length by omega)]
      rfl
    rw [e2]
theorem tk_mem (h : l ≠ []) : tkX z l d ∈ l := by
  have h1 := (ix_lt (d := d) h).1
  unfold tkX
  rw [List.getD_eq_getElem?_getD, List.getElem?_eq_getElem h1]
  exact List.getElem_mem h1
theorem tk_sub {x : α} (h : x ∈ tkL z l d) : x ∈ l := by
  by_cases hl : l = []
  · subst hl
    exact h
  · have hp : 0 < l.length := List.length_pos_iff.2 hl
    unfold tkL at h
    have h1 := List.mem_of_mem_take h
    rcases List.mem_or_eq_of_mem_set h1 with h2 | h2
    · exact h2
    · rw [h2, List.getD_eq_getElem?_getD, List.getElem?_eq_getElem (show l.length - 1 < l.length by omega)]
      exact List.getElem_mem _
end

/-- The block p is a pool of the items l (elements of type et, struct of type pt); what it writes has the colour k. -/
structure Pol {α : Type} (E : Enc α) (et pt : TypeId) (w : World) (c : Nat → Nat) (k p : Nat) (l : List α) : Prop where
  ex : ∃ v, w.heap[p]? = some (.cells #[v] pt (0, 0)) ∧ OwnK E et w 0 v l ∧ c p = k ∧ ∀ g, v.ownBlock = some g → c g = k ∧ g ≠ p
section
variable {α : Type} {E : Enc α} {et pt : TypeId} {w w' : World} {c c' : Nat → Nat} {k j p : Nat} {l l' : List α} {v v' : Value}
theorem Pol.lt (h : Pol E et pt w c k p l) : p < w.heap.size := by
  obtain ⟨v, h1, _⟩ := h.ex
  exact (Array.getElem?_eq_some_iff.1 h1).1
theorem Pol.col (h : Pol E et pt w c k p l) : c p = k := by
  obtain ⟨v, h1, h2, h3, _⟩ := h.ex
  exact h3
/-- What other colours write leaves it as it is. -/
theorem Pol.kept (h : Pol E et pt w c k p l) (hk : Kept c j w w') (hjk : j ≠ k) (hc : ∀ g, g < w.heap.size → c' g = c g) : Pol E et pt w' c' k p l := by
  have hlt := h.lt
  obtain ⟨v, h1, h2, h3, h4⟩ := h.ex
  refine ⟨v, (hk.block p hlt (by omega)).trans h1, h2.keptC hk (fun g hg => ?_), (hc p hlt).trans h3, fun g hg => ⟨(hc g (h2.ge hg).2).trans (h4 g hg).1, (h4 g hg).2⟩⟩
  have := (h4 g hg).1
  omega
theorem Pol.go (h : Pol E et pt w c k p l) (hb : Below w.heap.size w w') : Pol E et pt w' c k p l := h.kept (j := k + 1) (Kept.ofBelow hb) (by omega) (fun _ _ => rfl)
theorem Pol.recol (h : Pol E et pt w c k p l) (hc : ∀ g, g < w.heap.size → c' g = c g) : Pol E et pt w c' k p l := h.kept (j := k + 1) (Kept.ofBelow (Below.refl _ _)) (by omega) hc
/-- A pool laid around a row of the call's own. -/
theorem Pol.new {B : Nat} (h : OwnK E et w B v l) (hB : B ≤ w.heap.size) (hc : ∀ g, B ≤ g → c g = k) : Pol E et pt (w.alloc (.cells #[v] pt)) c k w.heap.size l :=
  ⟨v, heap_alloc_new w _, (h.down (Nat.zero_le _)).alloc _, hc _ hB, fun g hg => ⟨hc g (h.ge hg).1, by have := (h.ge hg).2; omega⟩⟩
/-- What is behind an append that is stored back. -/
theorem Pol.put (h1 : w.heap[p]? = some (.cells #[v] pt (0, 0))) (h2 : OwnK E et w 0 v l) (h3 : c p = k) (h4 : ∀ g, v.ownBlock = some g → c g = k ∧ g ≠ p)
    {w1 w2 : World} (hb : Below w.heap.size w w1) (ho : OwnK E et w2 0 v' l') (hg : w1.grownBy w2 v.ownBlock) (hv : v'.ownBlock = v.ownBlock ∨ v'.ownBlock = some w1.heap.size) :
    Pol E et pt (w2.setCell ⟨p, 0, none⟩ v') (rc c w.heap.size k) k p l' ∧ Kept c k w (w2.setCell ⟨p, 0, none⟩ v') ∧ w2.heap[p]? = some (.cells #[v] pt (0, 0)) := by
  have hp : p < w.heap.size := (Array.getElem?_eq_some_iff.1 h1).1
  have hz := hb.size
  have e2 : w2.heap[p]? = some (.cells #[v] pt (0, 0)) := (hg.block p (by omega) (fun e => (h4 p e.symm).2 rfl)).trans ((hb.block p hp).trans h1)
  have hne : ∀ g, v'.ownBlock = some g → g ≠ p := fun g hgo => by
    rcases hv with e | e
    · exact (h4 g (e ▸ hgo)).2
    · rw [e] at hgo
      cases hgo
      omega
  refine ⟨⟨v', heap_setCell_same w2 p 0 _ _ _ e2, OwnK.kept ho (run_setOwn w2 p _) ?_, (rc_old hp).trans h3, fun g hgo => ⟨?_, hne g hgo⟩⟩, ((Kept.ofBelow hb).trans (Kept.ofGrown hg (fun g e => (h4 g e).1))).trans (Kept.ofGrown (run_setOwn w2 p _) (fun g e => by cases e; exact h3)), e2⟩
  · rcases hbk : v'.ownBlock with _ | g
    · exact .inl rfl
    · exact .inr (fun e => hne g hbk (Option.some.inj e))
  · by_cases hlt : g < w.heap.size
    · rw [rc_old hlt]
      rcases hv with e | e
      · exact (h4 g (e ▸ hgo)).1
      · rw [e] at hgo
        cases hgo
        omega
    · exact rc_new (by omega)
end
/-- A shorter slice of a row of the call's own. -/
theorem OwnK.shrink {α : Type} {E : Enc α} {t : TypeId} {w : World} {base n m g cap : Nat} {l : List α} (h : OwnK E t w base (.slice (some ⟨g, 0, none⟩) n cap) l) (hn : 0 < n) (hm : m ≤ n) : OwnK E t w base (.slice (some ⟨g, 0, none⟩) m cap) (l.take m) := by
  have hnl := h.num
  obtain ⟨g', cap', cur, R, e, hb, hg, hgg, hnc, hmx, hs, ht⟩ := h.opn (by omega)
  cases e
  refine OwnK.shut (R := E.row (l.drop m) ++ R) hb hgg (by rw [List.length_take]; omega) hmx hs ?_ (by rw [List.length_take]; omega)
  rw [ht, ← List.append_assoc, kr_app, List.take_append_drop]
/-- The pool's block and its row within a call. -/
structure Mp {α : Type} (E : Enc α) (et pt : TypeId) (w0 : World) (c : Nat → Nat) (k p : Nat) (v : Value) (W : World) (l : List α) : Prop where
  blk : W.heap[p]? = some (.cells #[v] pt (0, 0))
  own : OwnK E et W 0 v l
  kept : Kept c k w0 W
  oth : KeepsOthers w0 W
section
variable {α : Type} {E : Enc α} {et pt : TypeId} {w0 w w' : World} {c : Nat → Nat} {k p g n m cap i j : Nat} {l : List α} {v : Value} {x y : α} {u u' : Value}
theorem Mp.go (h : Mp E et pt w0 c k p v w l) (hb : Below w.heap.size w w') : Mp E et pt w0 c k p v w' l :=
  ⟨(hb.block p (Array.getElem?_eq_some_iff.1 h.blk).1).trans h.blk, h.own.below hb, h.kept.trans (Kept.ofBelow hb), h.oth.trans (keepsOthers_below hb)⟩
theorem Mp.cell (h : Mp E et pt w0 c k p v w l) : w.cell? ⟨p, 0, none⟩ = some v := cell_of_row w p 0 _ _ _ h.blk
theorem Mp.fr (h : Mp E et pt w0 c k p v w l) : w.frozen? ⟨p, 0, none⟩ = false := frozen_of_row w p 0 _ _ h.blk
/-- A store into a cell of an item. -/
theorem Mp.set (h : Mp E et pt w0 c k p (.slice (some ⟨g, 0, none⟩) n cap) w l) (hgp : c g = k ∧ g ≠ p) (hx : l[i]? = some x) (hu : (E.ev x)[j]? = some u) (hy : E.ev y = (E.ev x).set j u') :
    w.cell? ⟨g, i * E.k + j, none⟩ = some u ∧ w.frozen? ⟨g, i * E.k + j, none⟩ = false ∧ Mp E et pt w0 c k p (.slice (some ⟨g, 0, none⟩) n cap) (w.setCell ⟨g, i * E.k + j, none⟩ u') (l.set i y) := by
  obtain ⟨g', cap', e, h1, h2, h3, h4, h5⟩ := h.own.store hx hu hy
  cases e
  have hg := run_setAt w g (i * E.k + j) u'
  refine ⟨h3, h4, (hg.block p (Array.getElem?_eq_some_iff.1 h.blk).1 (fun e => hgp.2 (Option.some.inj e).symm)).trans h.blk, h5, h.kept.trans (Kept.ofGrown hg (fun q e => by cases e; exact hgp.1)), h.oth.trans (KeepsOthers.setCell _ _ _)⟩
theorem Mp.set1 (hE : E.k = 1) (h : Mp E et pt w0 c k p (.slice (some ⟨g, 0, none⟩) n cap) w l) (hgp : c g = k ∧ g ≠ p) (hx : l[i]? = some x) (hu : E.ev x = [u]) (hy : E.ev y = [u']) :
    w.cell? ⟨g, i, none⟩ = some u ∧ w.frozen? ⟨g, i, none⟩ = false ∧ Mp E et pt w0 c k p (.slice (some ⟨g, 0, none⟩) n cap) (w.setCell ⟨g, i, none⟩ u') (l.set i y) := by
  have h1 := h.set (j := 0) hgp hx (by rw [hu]; rfl) (by rw [hy, hu]; rfl)
  rwa [hE, Nat.mul_one, Nat.add_zero] at h1
/-- A store into a block that is new. -/
theorem Mp.apart {b o : Nat} (h : Mp E et pt w0 c k p (.slice (some ⟨g, 0, none⟩) n cap) w l) (hg : g < w0.heap.size) (hp : p < w0.heap.size) (hb : w0.heap.size ≤ b) (u : Value) : Mp E et pt w0 c k p (.slice (some ⟨g, 0, none⟩) n cap) (w.setCell ⟨b, o, none⟩ u) l := by
  have hs := run_setAt w b o u
  refine ⟨(hs.block p (Array.getElem?_eq_some_iff.1 h.blk).1 (fun e => by cases e; omega)).trans h.blk, OwnK.kept h.own hs (.inr (fun e => by have e1 : g = b := Option.some.inj e; omega)), ⟨hs.os.trans h.kept.os, hs.tape.trans h.kept.tape, hs.output.trans h.kept.output, Nat.le_trans h.kept.size hs.size, fun q hq hne => ?_⟩, h.oth.trans (KeepsOthers.setCell _ _ _)⟩
  exact (hs.block q (Nat.lt_of_lt_of_le hq h.kept.size) (fun e => by cases e; omega)).trans (h.kept.block q hq hne)
theorem Mp.pol (h : Mp E et pt w0 c k p (.slice (some ⟨g, 0, none⟩) n cap) w l) (hgp : c g = k ∧ g ≠ p) (hcp : c p = k) : Pol E et pt w c k p l ∧ Kept c k w0 w ∧ KeepsOthers w0 w :=
  ⟨⟨_, h.blk, h.own, hcp, fun q hq => by cases hq; exact hgp⟩, h.kept, h.oth⟩
/-- The slice that is stored back is shorter. -/
theorem Mp.less (h : Mp E et pt w0 c k p (.slice (some ⟨g, 0, none⟩) n cap) w l) (hgp : c g = k ∧ g ≠ p) (hcp : c p = k) (hn : 0 < n) (hm : m ≤ n) :
    Mp E et pt w0 c k p (.slice (some ⟨g, 0, none⟩) m cap) (w.setCell ⟨p, 0, none⟩ (.slice (some ⟨g, 0, none⟩) m cap)) (l.take m) :=
  ⟨heap_setCell_same w p 0 _ _ _ h.blk, OwnK.kept (h.own.shrink hn hm) (run_setOwn w p _) (.inr (fun e => hgp.2 (Option.some.inj e))), h.kept.trans (Kept.ofGrown (run_setOwn w p _) (fun q e => by cases e; exact hcp)), h.oth.trans (KeepsOthers.setCell _ _ _)⟩
theorem Mp.shrink (h : Mp E et pt w0 c k p (.slice (some ⟨g, 0, none⟩) n cap) w l) (hgp : c g = k ∧ g ≠ p) (hcp : c p = k) (hn : 0 < n) (hm : m ≤ n) :
    Pol E et pt (w.setCell ⟨p, 0, none⟩ (.slice (some ⟨g, 0, none⟩) m cap)) c k p (l.take m) ∧ Kept c k w0 (w.setCell ⟨p, 0, none⟩ (.slice (some ⟨g, 0, none⟩) m cap)) ∧ KeepsOthers w0 (w.setCell ⟨p, 0, none⟩ (.slice (some ⟨g, 0, none⟩) m cap)) := (h.less hgp hcp hn hm).pol hgp hcp
end
end Go.Proofs.Ytaoojgnkbcoggaa
