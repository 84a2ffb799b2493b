/-
  An argument that is a slice of types: what its reading says of the value. No conditions beyond those that the lemma states.
-/
import Derived.Test.YtgddlpabgeeflaaTix
import Derived.Lib.SmallJoins
namespace Go.Proofs.Ytgddlpabgeeflaa
open Go.Joins Go.ChangeShapes Go.WideShapes Go.RowKit Go.Deep
/-- A slice of types that came in. -/
def IsTys (w : World) (a : Option Addr) (len cap : Nat) (rs : List Ty) : Prop := Kws tyE w w.heap.size a len cap rs ∧ Flw w w.heap.size rs
theorem open_typs {H : Type} {enc : TypeId × Value → H} {P : Program} {w : World} {base : Nat} {held : Bool} {t s e : TypeId} {f0 f1 g0 g1 : Field} {a : Option Addr} {len cap : Nat} {d : DataW H} {ps : List MemPlace}
    (ht : P.underlying t = some (.slice s)) (hs : P.underlying s = some (.struct #[f0, f1])) (cs_ : P.cellsOf s = 2) (p0 : f0.offset = 0) (p1 : f1.offset = 1) (d0 : P.cellsOf f0.type = 1) (d1 : P.cellsOf f1.type = 1)
    (q0 : P.underlying f0.type = some (.int .i64)) (q1 : P.underlying f1.type = some (.slice e))
    (he : P.underlying e = some (.struct #[g0, g1])) (ce : P.cellsOf e = 2) (o0 : g0.offset = 0) (o1 : g1.offset = 1) (c0 : P.cellsOf g0.type = 1) (c1 : P.cellsOf g1.type = 1)
    (i0 : P.underlying g0.type = some (.int .i64)) (i1 : P.underlying g1.type = some (.int .i64))
    (h : DataW.Trod enc P w base (fun _ => true) held t (.slice a len cap) d ps) : ∃ rs, IsTys w a len cap rs := by
  obtain ⟨fuel, hf⟩ := h
  rcases Go.Deep.open_slice_pairs ht hs cs_ p0 p1 d0 d1 hf with ⟨hcs, _⟩ | ⟨x, ln, cp, m, n, V0, V1, D0, D1, P0, P1, hcs, _, hl, hm, hmm, _, hx⟩
  · simp [Value.cells] at hcs
    obtain ⟨rfl, rfl, rfl⟩ := hcs
    exact ⟨[], Kws.none_, fun r hr => by cases hr⟩
  · simp [Value.cells] at hcs
    obtain ⟨rfl, rfl, rfl⟩ := hcs
    rw [if_pos rfl] at hmm
    subst hmm
    have each : ∀ i, i < m → ∃ r : Ty, V0 i = .int .i64 r.n ∧ V1 i = .slice r.A r.m r.c ∧ Exs w w.heap.size r.A r.m r.c r.l := by
      intro i hi
      obtain ⟨_, _, h1, h2⟩ := hx i hi
      obtain ⟨x0, e0, _, _⟩ := DataW.trod_int q0 h1
      simp at e0
      rcases DataW.trod_slice q1 h2 with ⟨hc, _⟩ | ⟨a1, l1, c1', _, _, _, _, hc, _⟩
      · simp at hc
        obtain ⟨l, hx1⟩ := open_exs (a := none) (len := 0) (cap := 0) q1 he ce o0 o1 c0 c1 i0 i1 ⟨n, by rw [hc] at h2; exact h2⟩
        exact ⟨⟨x0, none, 0, 0, l⟩, e0, hc, hx1⟩
      · simp at hc
        obtain ⟨l, hx1⟩ := open_exs (a := some a1) (len := l1) (cap := c1') q1 he ce o0 o1 c0 c1 i0 i1 ⟨n, by rw [hc] at h2; exact h2⟩
        exact ⟨⟨x0, some a1, l1, c1', l⟩, e0, hc, hx1⟩
    obtain ⟨q, hq⟩ : ∃ q : Nat → Ty, ∀ i, i < m → V0 i = .int .i64 (q i).n ∧ V1 i = .slice (q i).A (q i).m (q i).c ∧ Exs w w.heap.size (q i).A (q i).m (q i).c (q i).l := by
      have := Classical.skolem.1 (fun i : Nat => show ∃ r : Ty, i < m → V0 i = .int .i64 r.n ∧ V1 i = .slice r.A r.m r.c ∧ Exs w w.heap.size r.A r.m r.c r.l from by
        by_cases hi : i < m
        · obtain ⟨r, hr⟩ := each i hi
          exact ⟨r, fun _ => hr⟩
        · exact ⟨⟨0, none, 0, 0, []⟩, fun h => absurd h hi⟩)
      exact this
    refine ⟨(List.range len).map q, ⟨by simp, hl, hm, (fun h => by cases h), fun hn => ?_⟩, fun r hr => ?_⟩
    · obtain ⟨b, o, i⟩ := x
      have h0 := (hx 0 (by omega)).1
      have hi : i = none := by
        cases i with
        | none => rfl
        | some j =>
          simp only [World.cell?, Addr.add] at h0
          split at h0 <;> cases h0
      subst hi
      refine ⟨b, o, rfl, ?_, fun p u hu => ?_⟩
      · rw [Addr.add_lit] at h0
        exact lt_of_some h0
      · obtain ⟨i, j, r, hr, rfl, hj⟩ := kr_inv hu
        have hil : i < len := by
          have := (List.getElem?_eq_some_iff.1 hr).1
          simpa using this
        obtain ⟨e0, e1, _⟩ := hq i (by omega)
        obtain ⟨g0', g1', _⟩ := hx i (by omega)
        rw [Addr.add_lit] at g0' g1'
        have : r = q i := by simpa [hil] using hr.symm
        subst this
        rw [show tyE.k = 2 from rfl]
        match j, hj with
        | 0, hj =>
          have : u = .int .i64 (q i).n := by simpa [tyE] using hj.symm
          rw [this, ← e0, Nat.add_zero]
          exact g0'
        | 1, hj =>
          have : u = .slice (q i).A (q i).m (q i).c := by simpa [tyE] using hj.symm
          rw [this, ← e1]
          exact g1'
        | j + 2, hj => simp [tyE] at hj
    · obtain ⟨i, hi, rfl⟩ := List.mem_map.1 hr
      exact (hq i (by have := List.mem_range.1 hi; omega)).2.2
end Go.Proofs.Ytgddlpabgeeflaa
