/-
  An argument that is a type (a number and a slice of fields) by value: what its reading says of the value. No conditions beyond those that the lemma states.
-/
import Derived.Test.YtebbnkjjebfgeaaPair
import Derived.Lib.SmallJoins
namespace Go.Proofs.Ytebbnkjjebfgeaa
open Go.Joins Go.ChangeShapes Go.WideShapes Go.RowKit Go.Deep
theorem open_typ {H : Type} {enc : TypeId × Value → H} {P : Program} {w : World} {base : Nat} {held : Bool} {r : Reach} {b0 : Nat} {t e : TypeId} {f0 f1 g0 g1 : Field} {v : Value} {d : DataW H} {ps : List MemPlace}
    (hs : P.underlying t = some (.struct #[f0, f1])) (hone : oneCellFields P #[f0, f1] = true) (hC : P.cellsOf t = 2) (q0 : P.underlying f0.type = some (.int .i64)) (q1 : P.underlying f1.type = some (.slice e))
    (he : P.underlying e = some (.struct #[g0, g1])) (ce : P.cellsOf e = 2) (o0 : g0.offset = 0) (o1 : g1.offset = 1) (c0 : P.cellsOf g0.type = 1) (c1 : P.cellsOf g1.type = 1)
    (i0 : P.underlying g0.type = some (.int .i64)) (i1 : P.underlying g1.type = some (.int .i64))
    (hv : Value.okWide P w r b0 t v) (h : DataW.Trod enc P w base (fun _ => true) held t v d ps) : ∃ n A m c l, v = .agg #[.int .i64 n, .slice A m c] ∧ (Lit.int .i64 n).wf = true ∧ IsExs w A m c l := by
  obtain ⟨v0, v1, y0, y1, fu, rfl, _, _, h0, h1⟩ := open_agg2 hs hone hC hv h
  obtain ⟨n, e0, _, w0⟩ := DataW.trod_int q0 h0
  simp at e0
  subst e0
  rcases Go.Deep.open_slice_pairs q1 he ce o0 o1 c0 c1 h1 with ⟨hcs, _⟩ | ⟨x, ln, cp, m, nn, V0, V1, D0, D1, P0, P1, hcs, _, hl, hm, hmm, _, hx⟩
  · simp at hcs
    subst hcs
    exact ⟨n, none, 0, 0, [], rfl, w0, Exs.none_⟩
  · simp at hcs
    subst hcs
    have hb : ∃ b o, x = ⟨b, o, none⟩ ∨ m = 0 := by
      by_cases hm0 : m = 0
      · exact ⟨0, 0, .inr hm0⟩
      · have h0 := (hx 0 (by omega)).1
        obtain ⟨b, o, i⟩ := x
        have hi : i = none := by
          cases i with
          | none => rfl
          | some j =>
            simp only [World.cell?, Addr.add] at h0
            split at h0 <;> cases h0
        subst hi
        exact ⟨b, o, .inl rfl⟩
    have hlm : ln ≤ m := by rw [hmm]; split <;> omega
    have each : ∀ i, i < m → ∃ q : Int × Int, V0 i = .int .i64 q.1 ∧ V1 i = .int .i64 q.2 ∧ (Lit.int .i64 q.1).wf = true ∧ (Lit.int .i64 q.2).wf = true := by
      intro i hi
      obtain ⟨_, _, h1, h2⟩ := hx i hi
      obtain ⟨x0, e0, _, w0⟩ := DataW.trod_int i0 h1
      obtain ⟨x1, e1, _, w1⟩ := DataW.trod_int i1 h2
      simp at e0 e1
      exact ⟨(x0, x1), e0, e1, w0, w1⟩
    obtain ⟨q, hq⟩ := Go.Deep.choose_lt each
    refine ⟨n, some x, ln, cp, (List.range ln).map q, rfl, w0, by simp, hl, hm, (fun h => by cases h), ?_, fun hn => ?_⟩
    · intro y hy
      obtain ⟨i, hi, rfl⟩ := List.mem_map.1 hy
      obtain ⟨_, _, w0, w1⟩ := hq i (by have := List.mem_range.1 hi; omega)
      have b0 := Go.bounds_i64 w0
      have b1 := Go.bounds_i64 w1
      omega
    · obtain ⟨b, o, hbo⟩ := hb
      obtain rfl : x = ⟨b, o, none⟩ := by
        rcases hbo with h | h
        · exact h
        · omega
      refine ⟨b, o, rfl, ?_, fun j y hj => ?_⟩
      · have h0 := (hx 0 (by omega)).1
        rw [Addr.add_lit] at h0
        exact lt_of_some h0
      · have hjl : j < ln := by
          have := (List.getElem?_eq_some_iff.1 hj).1
          simpa using this
        obtain ⟨g1, g2, _, _⟩ := hx j (by omega)
        obtain ⟨e0, e1, _, _⟩ := hq j (by omega)
        rw [Addr.add_lit] at g1 g2
        have : y = q j := by simpa [hjl] using hj.symm
        subst this
        rw [g1, e0, Nat.add_assoc, g2, e1]
        exact ⟨rfl, rfl⟩
end Go.Proofs.Ytebbnkjjebfgeaa
