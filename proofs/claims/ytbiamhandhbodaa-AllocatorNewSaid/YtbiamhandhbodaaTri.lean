/-
  Slices of arrays of three bytes, and an extent, that came in as arguments: what they hold. No conditions beyond those that each lemma states.
-/
import Derived.Test.YtbiamhandhbodaaMem
import Derived.Laws.IdiomArrays
import Derived.Deep.Slices
import Derived.Deep.SlicePairs
import Derived.OpenShut
namespace Go.Proofs.Ytbiamhandhbodaa
open Go.ChangeShapes Go.WideShapes Go.ChangeAt Go.RowKit

/-- A slice of triples of bytes below block B. -/
structure Tri (w : World) (B : Nat) (A : Option Addr) (n c : Nat) : Prop where
  cap : n ≤ c
  small : c ≤ maxLen
  cells : ∀ i, i < n → ∃ b o x y z, A = some ⟨b, o, none⟩ ∧ b < B ∧ w.cell? ⟨b, o + i * 3, none⟩ = some (.int .u8 x) ∧ w.cell? ⟨b, o + i * 3 + 1, none⟩ = some (.int .u8 y) ∧ w.cell? ⟨b, o + i * 3 + 2, none⟩ = some (.int .u8 z) ∧ (0 ≤ x ∧ x ≤ 255) ∧ (0 ≤ y ∧ y ≤ 255) ∧ (0 ≤ z ∧ z ≤ 255)
theorem Tri.below {w w' : World} {B n c : Nat} {A : Option Addr} (h : Tri w B A n c) (hb : Below B w w') : Tri w' B A n c :=
  ⟨h.cap, h.small, fun i hi => by
    obtain ⟨b, o, x, y, z, e, hlt, h1, h2, h3, h4⟩ := h.cells i hi
    exact ⟨b, o, x, y, z, e, hlt, (hb.cell (p := ⟨b, _, none⟩) hlt).trans h1, (hb.cell (p := ⟨b, _, none⟩) hlt).trans h2, (hb.cell (p := ⟨b, _, none⟩) hlt).trans h3, h4⟩⟩
theorem tri_byte {n : Int} (h : (Lit.int .u8 n).wf = true) : 0 ≤ n ∧ n ≤ 255 := by
  have := Go.bounds_u8 h
  omega
theorem open_tri {H : Type} {enc : TypeId × Value → H} {P : Program} {w : World} {base : Nat} {held : Bool} {t e f : TypeId} {a : Option Addr} {len cap : Nat} {d : DataW H} {ps : List MemPlace}
    (ht : P.underlying t = some (.slice e)) (he : P.underlying e = some (.array 3 f)) (hf : P.underlying f = some (.int .u8)) (ce : P.cellsOf e = 3) (cf : P.cellsOf f = 1)
    (h : DataW.Trod enc P w base (fun _ => true) held t (.slice a len cap) d ps) : Tri w w.heap.size a len cap := by
  obtain ⟨fuel, hf'⟩ := h
  rcases Go.Deep.open_slice ht hf' with ⟨h0, _⟩ | ⟨x, ln, cp, m, n, D, Pl, hcs, hb, hl, hm, hmm, _, hx⟩
  · simp [Value.cells] at h0
    obtain ⟨rfl, rfl, rfl⟩ := h0
    exact ⟨Nat.le_refl _, Nat.zero_le _, fun i hi => by omega⟩
  · simp [Value.cells] at hcs
    obtain ⟨rfl, rfl, rfl⟩ := hcs
    rw [if_pos rfl] at hmm
    subst hmm
    refine ⟨hl, hm, fun i hi => ?_⟩
    obtain ⟨cs', h1, h2⟩ := hx i (by omega)
    rw [ce] at h1
    obtain ⟨_, hlen, hcell⟩ := World.cells?_some h1
    match cs', hlen with
    | [c0, c1, c2], _ =>
      obtain ⟨y0, y1, y2, k, _, g0, g1, g2⟩ := trod_array3 he cf h2
      obtain ⟨x0, e0, _, w0⟩ := DataW.trod_int hf g0
      obtain ⟨x1, e1, _, w1⟩ := DataW.trod_int hf g1
      obtain ⟨x2, e2, _, w2⟩ := DataW.trod_int hf g2
      simp at e0 e1 e2
      subst e0 e1 e2
      have q0 := hcell 0 (by omega)
      have q1 := hcell 1 (by omega)
      have q2 := hcell 2 (by omega)
      obtain ⟨b, o, s⟩ := x
      have hs : s = none := by
        obtain ⟨cs0, u1, _⟩ := hx 0 (by omega)
        rw [ce] at u1
        obtain ⟨_, ulen, ucell⟩ := World.cells?_some u1
        have u0 := ucell 0 (by omega)
        rw [List.getElem?_eq_getElem (by omega)] at u0
        cases s with
        | none => rfl
        | some j =>
          simp only [World.cell?, Addr.add, Nat.zero_mul, if_true] at u0
          split at u0 <;> cases u0
      subst hs
      simp only [Addr.add_lit] at q0 q1 q2
      simp at q0 q1 q2
      exact ⟨b, o, x0, x1, x2, rfl, lt_of_some q0, q0, q1, q2, tri_byte w0, tri_byte w1, tri_byte w2⟩
end Go.Proofs.Ytbiamhandhbodaa
