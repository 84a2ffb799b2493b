/-
  Arguments of the laws of stage 15: slices of arrays of five bytes, arrays of three bytes, quotas by value: what they hold. No conditions beyond those that each lemma states.
-/
import Derived.Test.YtfhpdjlppblkcaaQpu
import Derived.Laws.Rows
import Derived.Lib.SmallJoins
import Derived.Laws.IdiomArrays
import Derived.Deep.Slices
import Derived.Deep.SlicePairs
import Derived.OpenShut
namespace Go.Proofs.Ytfhpdjlppblkcaa
open Go.ChangeShapes Go.WideShapes Go.RowKit

/-- A slice of fives of bytes, below block B. -/
structure Fiv (w : World) (B : Nat) (A : Option Addr) (n c : Nat) : Prop where
  cap : n ≤ c
  small : c ≤ maxLen
  cells : ∀ i, i < n → ∃ b o x0 x1 x2 x3 x4, A = some ⟨b, o, none⟩ ∧ b < B ∧ w.cell? ⟨b, o + i * 5, none⟩ = some (.int .u8 x0) ∧ w.cell? ⟨b, o + i * 5 + 1, none⟩ = some (.int .u8 x1) ∧ w.cell? ⟨b, o + i * 5 + 2, none⟩ = some (.int .u8 x2) ∧ w.cell? ⟨b, o + i * 5 + 3, none⟩ = some (.int .u8 x3) ∧ w.cell? ⟨b, o + i * 5 + 4, none⟩ = some (.int .u8 x4) ∧ (0 ≤ x0 ∧ x0 ≤ 255) ∧ (0 ≤ x1 ∧ x1 ≤ 255) ∧ (0 ≤ x2 ∧ x2 ≤ 255) ∧ (0 ≤ x3 ∧ x3 ≤ 255) ∧ 0 ≤ x4 ∧ x4 ≤ 255
theorem Fiv.below {w w' : World} {B n c : Nat} {A : Option Addr} (h : Fiv w B A n c) (hb : Below B w w') : Fiv w' B A n c :=
  ⟨h.cap, h.small, fun i hi => by
    obtain ⟨b, o, x0, x1, x2, x3, x4, e, hlt, h0, h1, h2, h3, h4, h6⟩ := h.cells i hi
    exact ⟨b, o, x0, x1, x2, x3, x4, e, hlt, (hb.cell (p := ⟨b, _, none⟩) hlt).trans h0, (hb.cell (p := ⟨b, _, none⟩) hlt).trans h1, (hb.cell (p := ⟨b, _, none⟩) hlt).trans h2, (hb.cell (p := ⟨b, _, none⟩) hlt).trans h3, (hb.cell (p := ⟨b, _, none⟩) hlt).trans h4, h6⟩⟩
theorem open_fiv {H : Type} {enc : TypeId × Value → H} {P : Program} {w : World} {base : Nat} {held : Bool} {t e f : TypeId} {a : Option Addr} {len cap : Nat} {d : DataW H} {ps : List MemPlace}
    (ht : P.underlying t = some (.slice e)) (he : P.underlying e = some (.array 5 f)) (hf : P.underlying f = some (.int .u8)) (ce : P.cellsOf e = 5) (cf : P.cellsOf f = 1)
    (h : DataW.Trod enc P w base (fun _ => true) held t (.slice a len cap) d ps) : Fiv w w.heap.size a len cap := by
  obtain ⟨fuel, hf'⟩ := h
  rcases Go.Deep.open_slice ht hf' with ⟨h0, _⟩ | ⟨x, ln, cp, m, n, D, Pl, hcs, hb, hl, hm, hmm, _, hx⟩
  · simp [Value.cells] at h0
    obtain ⟨rfl, rfl, rfl⟩ := h0
    exact ⟨Nat.le_refl _, Nat.zero_le _, fun i hi => by omega⟩
  · simp [Value.cells] at hcs
    obtain ⟨rfl, rfl, rfl⟩ := hcs
    rw [if_pos rfl] at hmm
    subst hmm
    refine ⟨hl, hm, fun i hi => ?_⟩
    obtain ⟨cs', h1, h2⟩ := hx i (by omega)
    rw [ce] at h1
    obtain ⟨_, hlen, hcell⟩ := World.cells?_some h1
    obtain ⟨xs, k, _, _, _, _, hall⟩ := DataW.trod_array he h2
    rw [cf] at hall
    have numb : ∀ j, j < 5 → ∃ y : Int, cs'[j]? = some (.int .u8 y) ∧ 0 ≤ y ∧ y ≤ 255 := fun j hj => by
      have h3 := hall j hj
      have hxs : xs.length = 5 := by assumption
      rw [Nat.mul_one, List.getElem?_eq_getElem (by omega)] at h3
      obtain ⟨y, ey, _, wy⟩ := DataW.trod_int hf h3
      refine ⟨y, ?_, byte_bd wy⟩
      have h4 := congrArg (fun l => l[0]?) ey
      simpa [Value.cells, List.getElem?_take, List.getElem?_drop] using h4
    obtain ⟨y0, e0, b0⟩ := numb 0 (by omega)
    obtain ⟨y1, e1, b1⟩ := numb 1 (by omega)
    obtain ⟨y2, e2, b2⟩ := numb 2 (by omega)
    obtain ⟨y3, e3, b3⟩ := numb 3 (by omega)
    obtain ⟨y4, e4, b4⟩ := numb 4 (by omega)
    have q := fun j (hj : j < 5) => hcell j (by omega)
    obtain ⟨b, o, s⟩ := x
    have hs : s = none := by
      obtain ⟨cs0, u1, _⟩ := hx 0 (by omega)
      rw [ce] at u1
      obtain ⟨_, ulen, ucell⟩ := World.cells?_some u1
      have u0 := ucell 0 (by omega)
      rw [List.getElem?_eq_getElem (by omega)] at u0
      cases s with
      | none => rfl
      | some j =>
        simp only [World.cell?, Addr.add, Nat.zero_mul, if_true] at u0
        split at u0 <;> cases u0
    subst hs
    simp only [Addr.add_lit] at q
    have q0 := (q 0 (by omega)).trans e0
    have q1 := (q 1 (by omega)).trans e1
    have q2 := (q 2 (by omega)).trans e2
    have q3 := (q 3 (by omega)).trans e3
    have q4 := (q 4 (by omega)).trans e4
    simp only [Nat.add_zero] at q0
    exact ⟨b, o, y0, y1, y2, y3, y4, rfl, lt_of_some q0, q0, q1, q2, q3, q4, b0, b1, b2, b3, b4⟩
theorem Fiv.load {w : World} {a2 : Option Addr} {len2 cap2 i : Nat} (h : Fiv w w.heap.size a2 len2 cap2) (hi : i < len2) :
    ∃ b o x0 x1 x2 x3 x4, a2 = some ⟨b, o, none⟩ ∧ (∀ W, Below w.heap.size w W → W.cell? ⟨b, o + i * 5, none⟩ = some (.int .u8 x0) ∧ W.cell? ⟨b, o + i * 5 + 1, none⟩ = some (.int .u8 x1) ∧ W.cell? ⟨b, o + i * 5 + 2, none⟩ = some (.int .u8 x2) ∧ W.cell? ⟨b, o + i * 5 + 3, none⟩ = some (.int .u8 x3) ∧ W.cell? ⟨b, o + i * 5 + 4, none⟩ = some (.int .u8 x4)) ∧ (0 ≤ x0 ∧ x0 ≤ 255) ∧ (0 ≤ x1 ∧ x1 ≤ 255) ∧ (0 ≤ x2 ∧ x2 ≤ 255) ∧ (0 ≤ x3 ∧ x3 ≤ 255) ∧ 0 ≤ x4 ∧ x4 ≤ 255 := by
  obtain ⟨b, o, x0, x1, x2, x3, x4, e, hlt, h0, h1, h2, h3, h4, h6⟩ := h.cells i hi
  exact ⟨b, o, x0, x1, x2, x3, x4, e, fun W hW => ⟨(hW.cell (p := ⟨b, _, none⟩) hlt).trans h0, (hW.cell (p := ⟨b, _, none⟩) hlt).trans h1, (hW.cell (p := ⟨b, _, none⟩) hlt).trans h2, (hW.cell (p := ⟨b, _, none⟩) hlt).trans h3, (hW.cell (p := ⟨b, _, none⟩) hlt).trans h4⟩, h6⟩
theorem open_int_array {H : Type} {enc : TypeId × Value → H} {P : Program} {W : World} {base : Nat} {r : Reach} {b0 : Nat} {sp : Nat → Bool} {held : Bool} {t e : TypeId} {n : Nat} {q : IntKind} {v : Value} {d : DataW H} {ps : List MemPlace}
    (ht : P.underlying t = some (.array n e)) (he : P.underlying e = some (.int q)) (hc : P.cellsOf t = n) (hce : P.cellsOf e = 1) (hv : Value.okWide P W r b0 t v) (h : DataW.Trod enc P W base sp held t v d ps) :
    ∃ l : List Int, v = .agg (l.map (Value.int q)).toArray ∧ l.length = n ∧ ∀ x ∈ l, (Lit.int q x).wf = true := by
  simp only [Value.okWide, ht] at hv
  obtain ⟨cs, rfl, h2, _⟩ := hv
  rw [hc] at h2
  obtain ⟨fuel, hf⟩ := h
  obtain ⟨xs, m, rfl, _, _, hx, hi⟩ := DataW.trod_array ht hf
  have hall : ∀ i, i < n → ∃ a : Int, cs[i]? = some (.int q a) ∧ (Lit.int q a).wf = true := by
    intro i hi'
    have h3 := hi i hi'
    rw [hce, Nat.mul_one, List.getElem?_eq_getElem (by omega)] at h3
    obtain ⟨a, ea, _, wa⟩ := DataW.trod_int he h3
    refine ⟨a, ?_, wa⟩
    have h4 := congrArg (fun l => l[0]?) ea
    simpa [Value.cells, List.getElem?_take, List.getElem?_drop] using h4
  have hget : ∀ i, i < n → ∃ a : Int, cs[i]? = some (.int q a) ∧ (Lit.int q a).wf = true := hall
  refine ⟨cs.toList.map (fun v => match v with | .int _ a => a | _ => 0), ?_, by simp [h2], ?_⟩
  · congr 1
    apply Array.ext_getElem?
    intro i
    by_cases hi' : i < n
    · obtain ⟨a, ha, _⟩ := hget i hi'
      simp [ha]
    · simp [Array.getElem?_eq_none (by omega : cs.size ≤ i)]
  · intro x hx
    obtain ⟨v, hv, rfl⟩ := List.mem_map.1 hx
    obtain ⟨i, hi', rfl⟩ := List.mem_iff_getElem.1 hv
    obtain ⟨a, ha, wa⟩ := hget i (by simpa [h2] using hi')
    have : cs.toList[i] = .int q a := by
      have := (Array.getElem?_eq_some_iff.1 ha).2
      simpa using this
    rw [this]
    exact wa
/-- Three bytes. -/
def Three (x y z : Int) : Prop := (0 ≤ x ∧ x ≤ 255) ∧ (0 ≤ y ∧ y ≤ 255) ∧ 0 ≤ z ∧ z ≤ 255
theorem open_three {H : Type} {enc : TypeId × Value → H} {P : Program} {W : World} {base : Nat} {r : Reach} {b0 : Nat} {sp : Nat → Bool} {held : Bool} {t e : TypeId} {v : Value} {d : DataW H} {ps : List MemPlace}
    (ht : P.underlying t = some (.array 3 e)) (he : P.underlying e = some (.int .u8)) (hc : P.cellsOf t = 3) (hce : P.cellsOf e = 1) (hv : Value.okWide P W r b0 t v) (h : DataW.Trod enc P W base sp held t v d ps) :
    ∃ x y z, v = .agg #[.int .u8 x, .int .u8 y, .int .u8 z] ∧ Three x y z := by
  obtain ⟨l, rfl, hl, hw⟩ := open_int_array ht he hc hce hv h
  match l, hl, hw with
  | [x, y, z], _, hw => exact ⟨x, y, z, rfl, byte_bd (hw x (by simp)), byte_bd (hw y (by simp)), byte_bd (hw z (by simp))⟩
open Go.Joins Go.Deep in
theorem open_quo {H : Type} {enc : TypeId × Value → H} {P : Program} {w : World} {base : Nat} {held : Bool} {r : Reach} {b0 : Nat} {t : TypeId} {f0 f1 f2 : Field} {v : Value} {d : DataW H} {ps : List MemPlace}
    (hs : P.underlying t = some (.struct #[f0, f1, f2])) (hone : oneCellFields P #[f0, f1, f2] = true) (hC : P.cellsOf t = 3) (q0 : P.underlying f0.type = some (.int .i64)) (q1 : P.underlying f1.type = some (.int .i64)) (q2 : P.underlying f2.type = some (.int .i64))
    (hv : Value.okWide P w r b0 t v) (h : DataW.Trod enc P w base (fun _ => true) held t v d ps) : ∃ q : Q3, v = q.val ∧ q.In := by
  obtain ⟨c0, c1, c2, y0, y1, y2, m, rfl, _, _, h0, h1, h2⟩ := open_agg3 hs hone hC hv h
  obtain ⟨x, e0, _, w0⟩ := DataW.trod_int q0 h0
  obtain ⟨y, e1, _, w1⟩ := DataW.trod_int q1 h1
  obtain ⟨z, e2, _, w2⟩ := DataW.trod_int q2 h2
  simp at e0 e1 e2
  subst e0 e1 e2
  have b0 := Go.bounds_i64 w0
  have b1 := Go.bounds_i64 w1
  have b2 := Go.bounds_i64 w2
  exact ⟨⟨x, y, z⟩, rfl, by simp only; omega, by simp only; omega, by simp only; omega⟩
end Go.Proofs.Ytfhpdjlppblkcaa
