/-
  A block of bytes that the call may write: what it holds, how a store changes it, and that a slice of it reads as it. Opening an argument that is an array of integers. No conditions beyond those that each lemma states.
-/
import Derived.Test.YtjhlglckdbjgcaaBytes
import Derived.Laws.Rows
import Derived.OpenShut
namespace Go.Proofs.Ytjhlglckdbjgcaa
open Go.ChangeShapes Go.WideShapes Go.RowKit

/-- Block g holds exactly the bytes m and is not frozen. -/
def Blk (w : World) (g : Nat) (t : TypeId) (m : List Int) : Prop := w.heap[g]? = some (.cells (bv m).toArray t (0, 0))
section
variable {w w' : World} {g : Nat} {t : TypeId} {m : List Int}
theorem Blk.cell (h : Blk w g t m) {k : Nat} (hk : k < m.length) : w.cell? ⟨g, k, none⟩ = some (.int .u8 (m.getD k 0)) := by
  rw [cell_of_row w g k _ t (0, 0) h]
  simpa using bv_at hk
theorem Blk.thawed (h : Blk w g t m) (k : Nat) : w.frozen? ⟨g, k, none⟩ = false := frozen_of_row w g k _ t h
theorem Blk.lt (h : Blk w g t m) : g < w.heap.size := by
  rcases Nat.lt_or_ge g w.heap.size with h1 | h1
  · exact h1
  · unfold Blk at h; rw [Array.getElem?_eq_none h1] at h; cases h
theorem bv_set (m : List Int) (k : Nat) (x : Int) : (bv m).set k (.int .u8 x) = bv (m.set k x) := by simp [bv, List.map_set]
theorem Blk.set (h : Blk w g t m) (k : Nat) (x : Int) : Blk (w.setCell ⟨g, k, none⟩ (.int .u8 x)) g t (m.set k x) := by
  unfold Blk
  rw [heap_setCell_same w g k _ t _ h, ← bv_set]
  simp
theorem Blk.new (w : World) (m : List Int) (t : TypeId) : Blk (w.alloc (.cells (bv m).toArray t)) w.heap.size t m := heap_alloc_new w _
theorem Blk.byt (h : Blk w g t m) (hm : m.length ≤ maxLen) : Byt w w.heap.size (some ⟨g, 0, none⟩) m.length m.length m :=
  ⟨rfl, Nat.le_refl _, hm, (fun h => by cases h), fun _ => ⟨g, 0, rfl, h.lt, fun i hi => by rw [Nat.zero_add]; exact h.cell hi⟩⟩
theorem Blk.below (h : Blk w g t m) (hb : Below w.heap.size w w') : Blk w' g t m := by
  unfold Blk
  rw [hb.block g h.lt]
  exact h
theorem Small.at_ (hs : Small m) (k : Nat) : 0 ≤ m.getD k 0 ∧ m.getD k 0 ≤ 255 := by
  by_cases hk : k < m.length
  · simp only [List.getD, List.getElem?_eq_getElem hk, Option.getD_some]
    exact hs _ (List.getElem_mem hk)
  · simp [List.getD, List.getElem?_eq_none (by omega : m.length ≤ k)]
theorem set_small (hs : Small m) (k : Nat) {x : Int} (h0 : 0 ≤ x) (h1 : x ≤ 255) : Small (m.set k x) := fun y hy => by
  rcases List.mem_or_eq_of_mem_set hy with h | rfl
  · exact hs y h
  · exact ⟨h0, h1⟩
end

/-- An argument that is an array of integers. -/
theorem open_int_array {H : Type} {enc : TypeId × Value → H} {P : Program} {W : World} {base : Nat} {r : Reach} {b0 : Nat} {sp : Nat → Bool} {held : Bool} {t e : TypeId} {n : Nat} {q : IntKind} {v : Value} {d : DataW H} {ps : List MemPlace}
    (ht : P.underlying t = some (.array n e)) (he : P.underlying e = some (.int q)) (hc : P.cellsOf t = n) (hce : P.cellsOf e = 1) (hv : Value.okWide P W r b0 t v) (h : DataW.Trod enc P W base sp held t v d ps) :
    ∃ l : List Int, v = .agg (l.map (Value.int q)).toArray ∧ l.length = n ∧ ∀ x ∈ l, (Lit.int q x).wf = true := by
  simp only [Value.okWide, ht] at hv
  obtain ⟨cs, rfl, h2, _⟩ := hv
  rw [hc] at h2
  obtain ⟨fuel, hf⟩ := h
  obtain ⟨xs, m, rfl, _, _, hx, hi⟩ := DataW.trod_array ht hf
  have hall : ∀ i, i < n → ∃ a : Int, cs[i]? = some (.int q a) ∧ (Lit.int q a).wf = true := by
    intro i hi'
    have h3 := hi i hi'
    rw [hce, Nat.mul_one, List.getElem?_eq_getElem (by omega)] at h3
    obtain ⟨a, ea, _, wa⟩ := DataW.trod_int he h3
    refine ⟨a, ?_, wa⟩
    have h4 := congrArg (fun l => l[0]?) ea
    simpa [Value.cells, List.getElem?_take, List.getElem?_drop] using h4
  have hget : ∀ i, i < n → ∃ a : Int, cs[i]? = some (.int q a) ∧ (Lit.int q a).wf = true := hall
  refine ⟨cs.toList.map (fun v => match v with | .int _ a => a | _ => 0), ?_, by simp [h2], ?_⟩
  · congr 1
    apply Array.ext_getElem?
    intro i
    by_cases hi' : i < n
    · obtain ⟨a, ha, _⟩ := hget i hi'
      simp [ha]
    · simp [Array.getElem?_eq_none (by omega : cs.size ≤ i)]
  · intro x hx
    obtain ⟨v, hv, rfl⟩ := List.mem_map.1 hx
    obtain ⟨i, hi', rfl⟩ := List.mem_iff_getElem.1 hv
    obtain ⟨a, ha, wa⟩ := hget i (by simpa [h2] using hi')
    have : cs.toList[i] = .int q a := by
      have := (Array.getElem?_eq_some_iff.1 ha).2
      simpa using this
    rw [this]
    exact wa
end Go.Proofs.Ytjhlglckdbjgcaa
