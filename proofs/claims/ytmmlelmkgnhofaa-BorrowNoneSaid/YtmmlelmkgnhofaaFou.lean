/-
  Slices of arrays of four bytes that came in as arguments: what they hold. No conditions beyond those that each lemma states.
-/
import Derived.Test.YtmmlelmkgnhofaaRow
import Derived.Laws.IdiomArrays
import Derived.Deep.Slices
import Derived.Deep.SlicePairs
import Derived.OpenShut
namespace Go.Proofs.Ytmmlelmkgnhofaa
open Go.ChangeShapes Go.WideShapes Go.RowKit

/-- A slice of fours of bytes, below block B. -/
structure Fou (w : World) (B : Nat) (A : Option Addr) (n c : Nat) : Prop where
  cap : n ≤ c
  small : c ≤ maxLen
  cells : ∀ i, i < n → ∃ b o x0 x1 x2 x3, A = some ⟨b, o, none⟩ ∧ b < B ∧ w.cell? ⟨b, o + i * 4, none⟩ = some (.int .u8 x0) ∧ w.cell? ⟨b, o + i * 4 + 1, none⟩ = some (.int .u8 x1) ∧ w.cell? ⟨b, o + i * 4 + 2, none⟩ = some (.int .u8 x2) ∧ w.cell? ⟨b, o + i * 4 + 3, none⟩ = some (.int .u8 x3) ∧ (0 ≤ x0 ∧ x0 ≤ 255) ∧ (0 ≤ x1 ∧ x1 ≤ 255) ∧ (0 ≤ x2 ∧ x2 ≤ 255) ∧ 0 ≤ x3 ∧ x3 ≤ 255
theorem Fou.below {w w' : World} {B n c : Nat} {A : Option Addr} (h : Fou w B A n c) (hb : Below B w w') : Fou w' B A n c :=
  ⟨h.cap, h.small, fun i hi => by
    obtain ⟨b, o, x0, x1, x2, x3, e, hlt, h0, h1, h2, h3, h6⟩ := h.cells i hi
    exact ⟨b, o, x0, x1, x2, x3, e, hlt, (hb.cell (p := ⟨b, _, none⟩) hlt).trans h0, (hb.cell (p := ⟨b, _, none⟩) hlt).trans h1, (hb.cell (p := ⟨b, _, none⟩) hlt).trans h2, (hb.cell (p := ⟨b, _, none⟩) hlt).trans h3, h6⟩⟩
theorem open_fou {H : Type} {enc : TypeId × Value → H} {P : Program} {w : World} {base : Nat} {held : Bool} {t e f : TypeId} {a : Option Addr} {len cap : Nat} {d : DataW H} {ps : List MemPlace}
    (ht : P.underlying t = some (.slice e)) (he : P.underlying e = some (.array 4 f)) (hf : P.underlying f = some (.int .u8)) (ce : P.cellsOf e = 4) (cf : P.cellsOf f = 1)
    (h : DataW.Trod enc P w base (fun _ => true) held t (.slice a len cap) d ps) : Fou w w.heap.size a len cap := by
  obtain ⟨fuel, hf'⟩ := h
  rcases Go.Deep.open_slice ht hf' with ⟨h0, _⟩ | ⟨x, ln, cp, m, n, D, Pl, hcs, hb, hl, hm, hmm, _, hx⟩
  · simp [Value.cells] at h0
    obtain ⟨rfl, rfl, rfl⟩ := h0
    exact ⟨Nat.le_refl _, Nat.zero_le _, fun i hi => by omega⟩
  · simp [Value.cells] at hcs
    obtain ⟨rfl, rfl, rfl⟩ := hcs
    rw [if_pos rfl] at hmm
    subst hmm
    refine ⟨hl, hm, fun i hi => ?_⟩
    obtain ⟨cs', h1, h2⟩ := hx i (by omega)
    rw [ce] at h1
    obtain ⟨_, hlen, hcell⟩ := World.cells?_some h1
    obtain ⟨xs, k, _, _, _, _, hall⟩ := DataW.trod_array he h2
    rw [cf] at hall
    have numb : ∀ j, j < 4 → ∃ y : Int, cs'[j]? = some (.int .u8 y) ∧ 0 ≤ y ∧ y ≤ 255 := fun j hj => by
      have h3 := hall j hj
      have hxs : xs.length = 4 := by assumption
      rw [Nat.mul_one, List.getElem?_eq_getElem (by omega)] at h3
      obtain ⟨y, ey, _, wy⟩ := DataW.trod_int hf h3
      refine ⟨y, ?_, byte_bd wy⟩
      have h4 := congrArg (fun l => l[0]?) ey
      simpa [Value.cells, List.getElem?_take, List.getElem?_drop] using h4
    obtain ⟨y0, e0, b0⟩ := numb 0 (by omega)
    obtain ⟨y1, e1, b1⟩ := numb 1 (by omega)
    obtain ⟨y2, e2, b2⟩ := numb 2 (by omega)
    obtain ⟨y3, e3, b3⟩ := numb 3 (by omega)
    have q := fun j (hj : j < 4) => hcell j (by omega)
    obtain ⟨b, o, s⟩ := x
    have hs : s = none := by
      obtain ⟨cs0, u1, _⟩ := hx 0 (by omega)
      rw [ce] at u1
      obtain ⟨_, ulen, ucell⟩ := World.cells?_some u1
      have u0 := ucell 0 (by omega)
      rw [List.getElem?_eq_getElem (by omega)] at u0
      cases s with
      | none => rfl
      | some j =>
        simp only [World.cell?, Addr.add, Nat.zero_mul, if_true] at u0
        split at u0 <;> cases u0
    subst hs
    simp only [Addr.add_lit] at q
    have q0 := (q 0 (by omega)).trans e0
    have q1 := (q 1 (by omega)).trans e1
    have q2 := (q 2 (by omega)).trans e2
    have q3 := (q 3 (by omega)).trans e3
    simp only [Nat.add_zero] at q0
    exact ⟨b, o, y0, y1, y2, y3, rfl, lt_of_some q0, q0, q1, q2, q3, b0, b1, b2, b3⟩
end Go.Proofs.Ytmmlelmkgnhofaa
