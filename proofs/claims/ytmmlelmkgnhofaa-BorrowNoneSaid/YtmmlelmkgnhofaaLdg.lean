/-
  A ledger in memory: a map from objects to slices of borrows, each in a row of its own. What stays while other memory changes; what a look-up gives; what a change at one object leaves. No conditions beyond those that each lemma states.
-/
import Derived.Test.YtmmlelmkgnhofaaBos
import Derived.Test.YtmmlelmkgnhofaaBop
import Derived.Maps.RangeWalk
namespace Go.Proofs.Ytmmlelmkgnhofaa
open Go.ChangeShapes Go.WideShapes Go.RowKit Go.Maps
set_option linter.unusedVariables false
set_option linter.unusedSimpArgs false
set_option maxHeartbeats 4000000
set_option maxRecDepth 100000

/-- A value as itself. -/
def tk (v : Value) : Option (DataW Value × List MemPlace) := some (.held v, [])
theorem law3 : Keyed Try.prog 3 := int_keyed Try.underlying3
theorem key3 {o : Int} (ho : Ri o) : keyOf Try.prog 3 (.int .i64 o) = some (.int .i64 o) := keyOf_int_mk Try.underlying3 ho
theorem lit_ne {o o' : Int} (h : o' ≠ o) : (Lit.int .i64 o' : Lit) ≠ .int .i64 o := fun e => h (by injection e)
theorem isKey3 {o : Int} (ho : Ri o) : WideAt.IsKeyLit (.int .i64 o) := law3.key (key3 ho)
/-- The map's entries are the rows of the objects. -/
structure Slm (w : World) (c : Nat → Nat) (k : Nat) (D : DataW Value) (sl : Int → Value) (L : List Bo) : Prop where
  ri : ∀ x ∈ L, Ri x.o
  has : ∀ o, Ri o → (has D (.int .i64 o) = true ↔ ofL o L ≠ [])
  at_ : ∀ o, Ri o → D.atKey (.int .i64 o) (.held (.slice none 0 0)) = .held (sl o)
  own : ∀ o, Ri o → OwC k bo4 47 w c (sl o) (ofL o L)
  apart : ∀ o o' g, Ri o → Ri o' → (sl o).ownBlock = some g → (sl o').ownBlock = some g → o = o'
/-- The map at block b. -/
def Lm (w : World) (c : Nat → Nat) (k b : Nat) (L : List Bo) : Prop := c b = k ∧ ∃ n D sl, w.ownsMap Try.prog 3 tk b n D ∧ Slm w c k D sl L
/-- The map's value: nil, or the map at a block. -/
def Mv (w : World) (c : Nat → Nat) (k : Nat) (mv : Option Nat) (L : List Bo) : Prop := (mv = none ∧ L = []) ∨ ∃ b, mv = some b ∧ Lm w c k b L
/-- The ledger at block p. -/
def Led (w : World) (c : Nat → Nat) (k p : Nat) (L : List Bo) : Prop := c p = k ∧ ∃ mv, w.heap[p]? = some (.cells #[.map mv] 54 (0, 0)) ∧ Mv w c k mv L
/-- A ledger or nil. -/
def Ldq (w : World) (c : Nat → Nat) (k : Nat) (q : Option Addr) (L : List Bo) : Prop := (q = none ∧ L = []) ∨ ∃ p, q = some ⟨p, 0, none⟩ ∧ Led w c k p L
section
variable {w w' w1 w2 : World} {c c' : Nat → Nat} {j k b n p : Nat} {D D' : DataW Value} {sl : Int → Value} {L L' : List Bo} {o : Int} {mv : Option Nat} {q : Option Addr}
theorem ownsMap_keep {R : Value → Option (DataW Value × List MemPlace)} (h : w.ownsMap Try.prog 3 R b n D) (hb : w'.heap[b]? = w.heap[b]?) : w'.ownsMap Try.prog 3 R b n D := by
  obtain ⟨es, clock, h1, h2⟩ := h
  exact ⟨es, clock, hb.trans h1, h2⟩
theorem Slm.kept (h : Slm w c k D sl L) (hk : Kept c j w w') (hjk : j ≠ k) (hc : ∀ g, g < w.heap.size → c' g = c g) : Slm w' c' k D sl L :=
  ⟨h.ri, h.has, h.at_, fun o ho => (h.own o ho).kept hk hjk hc, h.apart⟩
theorem Lm.kept (h : Lm w c k b L) (hk : Kept c j w w') (hjk : j ≠ k) (hc : ∀ g, g < w.heap.size → c' g = c g) : Lm w' c' k b L := by
  obtain ⟨h1, n, D, sl, h2, h3⟩ := h
  have hb := h2.lt
  exact ⟨(hc b hb).trans h1, n, D, sl, ownsMap_keep h2 (hk.block b hb (by omega)), h3.kept hk hjk hc⟩
theorem Mv.kept (h : Mv w c k mv L) (hk : Kept c j w w') (hjk : j ≠ k) (hc : ∀ g, g < w.heap.size → c' g = c g) : Mv w' c' k mv L := by
  rcases h with h | ⟨b, e, h⟩
  · exact .inl h
  · exact .inr ⟨b, e, h.kept hk hjk hc⟩
theorem Led.lt (h : Led w c k p L) : p < w.heap.size := by
  obtain ⟨_, mv, h2, _⟩ := h
  exact (Array.getElem?_eq_some_iff.1 h2).1
theorem Led.kept (h : Led w c k p L) (hk : Kept c j w w') (hjk : j ≠ k) (hc : ∀ g, g < w.heap.size → c' g = c g) : Led w' c' k p L := by
  have hp := h.lt
  obtain ⟨h1, mv, h2, h3⟩ := h
  exact ⟨(hc p hp).trans h1, mv, (hk.block p hp (by omega)).trans h2, h3.kept hk hjk hc⟩
theorem Ldq.kept (h : Ldq w c k q L) (hk : Kept c j w w') (hjk : j ≠ k) (hc : ∀ g, g < w.heap.size → c' g = c g) : Ldq w' c' k q L := by
  rcases h with h | ⟨p, e, h⟩
  · exact .inl h
  · exact .inr ⟨p, e, h.kept hk hjk hc⟩
theorem Mv.go (h : Mv w c k mv L) (hb : Below w.heap.size w w') : Mv w' c k mv L := h.kept (j := k + 1) (Kept.ofBelow hb) (by omega) (fun _ _ => rfl)
theorem Led.go (h : Led w c k p L) (hb : Below w.heap.size w w') : Led w' c k p L := h.kept (j := k + 1) (Kept.ofBelow hb) (by omega) (fun _ _ => rfl)
theorem Ldq.go (h : Ldq w c k q L) (hb : Below w.heap.size w w') : Ldq w' c k q L := h.kept (j := k + 1) (Kept.ofBelow hb) (by omega) (fun _ _ => rfl)
theorem Led.toq (h : Led w c k p L) : Ldq w c k (some ⟨p, 0, none⟩) L := .inr ⟨p, rfl, h⟩
theorem Led.cells (h : Led w c k p L) : ∃ mv, w.cell? ⟨p, 0, none⟩ = some (.map mv) ∧ w.frozen? ⟨p, 0, none⟩ = false ∧ Mv w c k mv L := by
  obtain ⟨_, mv, h2, h3⟩ := h
  exact ⟨mv, cell_of_row w p 0 _ _ _ h2, frozen_of_row w p 0 _ _ h2, h3⟩
theorem zeroB (w : World) : (zeroValue 26).run Try.prog w = .ok (.slice none 0 0) w := Try.zeroValue26 w
/-- A look-up. -/
theorem Mv.look (h : Mv w c k mv L) (ho : Ri o) : ∃ A n cap, (Instr.lookup 52 (.map mv) (.int .i64 o) false).run Try.prog w = .ok (.slice A n cap) w ∧ OwC k bo4 47 w c (.slice A n cap) (ofL o L) := by
  rcases h with ⟨rfl, rfl⟩ | ⟨b, rfl, _, n, D, sl, h2, h3⟩
  · exact ⟨none, 0, 0, look_nil false law3 Try.underlying52 (zeroB w) (key3 ho), OwC.nil⟩
  · obtain ⟨v, ps, hrun, hv⟩ := h2.lookup law3 Try.underlying52 (zeroB w) (zd := .held (.slice none 0 0)) (zp := []) rfl (key3 ho)
    rw [h3.at_ o ho] at hv
    unfold tk at hv
    have e : v = sl o := by
      injection hv with hv
      injection hv with h4 _
      injection h4
    subst e
    obtain ⟨A, n', cap, e, _⟩ := (h3.own o ho).1.shape
    rw [e] at hrun
    refine ⟨A, n', cap, hrun, ?_⟩
    rw [← e]
    exact h3.own o ho
/-- A change at one object. -/
theorem Slm.upd {v' : Value} (S : Slm w c k D sl L) (ho : Ri o) (hz : w.heap.size ≤ w'.heap.size) (hkeep : ∀ g cs, w.heap[g]? = some (.cells cs 47 (0, 0)) → (sl o).ownBlock ≠ some g → w'.heap[g]? = some (.cells cs 47 (0, 0)))
    (hc : ∀ g, g < w.heap.size → c' g = c g) (hv : OwC k bo4 47 w' c' v' (ofL o L')) (hb : v'.ownBlock = (sl o).ownBlock ∨ ∀ g, v'.ownBlock = some g → w.heap.size ≤ g)
    (hL : ∀ o', o' ≠ o → ofL o' L' = ofL o' L) (hD1 : Maps.has D' (.int .i64 o) = true ↔ ofL o L' ≠ []) (hD2 : D'.atKey (.int .i64 o) (.held (.slice none 0 0)) = .held v')
    (hD3 : ∀ o', o' ≠ o → Maps.has D' (.int .i64 o') = Maps.has D (.int .i64 o') ∧ D'.atKey (.int .i64 o') (.held (.slice none 0 0)) = D.atKey (.int .i64 o') (.held (.slice none 0 0))) (hri : ∀ x ∈ L', Ri x.o) :
    Slm w' c' k D' (fun z => if z = o then v' else sl z) L' := by
  have hlt : ∀ z g, Ri z → (sl z).ownBlock = some g → g < w.heap.size := fun z g hz hg => ((S.own z hz).1.ge hg).2
  refine ⟨hri, fun z hz => ?_, fun z hz => ?_, fun z hz => ?_, fun z z' g hz hz' h1 h2 => ?_⟩
  · by_cases e : z = o
    · subst e
      exact hD1
    · rw [(hD3 z e).1, hL z e]
      exact S.has z hz
  · by_cases e : z = o
    · subst e
      rw [if_pos rfl]
      exact hD2
    · rw [if_neg e, (hD3 z e).2]
      exact S.at_ z hz
  · by_cases e : z = o
    · subst e
      rw [if_pos rfl]
      exact hv
    · rw [if_neg e, hL z e]
      have h1 := S.own z hz
      refine ⟨h1.1.same fun g cs hg _ hcell => hkeep g cs hcell (fun hx => e (S.apart z o g hz ho hg hx)), fun g hg => (hc g (hlt z g hz hg)).trans (h1.2 g hg)⟩
  · by_cases e : z = o <;> by_cases e' : z' = o
    · rw [e, e']
    · rw [if_pos e] at h1
      rw [if_neg e'] at h2
      have := hlt z' g hz' h2
      rcases hb with hb | hb
      · rw [hb] at h1
        exact absurd (S.apart o z' g ho hz' h1 h2).symm e'
      · have := hb g h1
        omega
    · rw [if_neg e] at h1
      rw [if_pos e'] at h2
      have := hlt z g hz h1
      rcases hb with hb | hb
      · rw [hb] at h2
        exact absurd (S.apart z o g hz ho h1 h2) e
      · have := hb g h2
        omega
    · rw [if_neg e] at h1
      rw [if_neg e'] at h2
      exact S.apart z z' g hz hz' h1 h2
end
end Go.Proofs.Ytmmlelmkgnhofaa
