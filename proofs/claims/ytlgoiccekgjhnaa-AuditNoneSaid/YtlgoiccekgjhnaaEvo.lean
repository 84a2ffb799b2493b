/-
  Arguments of the laws of stage 16: arrays of integers and events by value: what they hold. No conditions beyond those that each lemma states.
-/
import Derived.Test.YtlgoiccekgjhnaaEvp
import Derived.Laws.Rows
import Derived.Lib.SmallJoins
import Derived.Laws.IdiomArrays
import Derived.Deep.Slices
import Derived.Deep.SlicePairs
import Derived.OpenShut
namespace Go.Proofs.Ytlgoiccekgjhnaa
open Go.ChangeShapes Go.WideShapes Go.RowKit

theorem open_int_array {H : Type} {enc : TypeId × Value → H} {P : Program} {W : World} {base : Nat} {r : Reach} {b0 : Nat} {sp : Nat → Bool} {held : Bool} {t e : TypeId} {n : Nat} {q : IntKind} {v : Value} {d : DataW H} {ps : List MemPlace}
    (ht : P.underlying t = some (.array n e)) (he : P.underlying e = some (.int q)) (hc : P.cellsOf t = n) (hce : P.cellsOf e = 1) (hv : Value.okWide P W r b0 t v) (h : DataW.Trod enc P W base sp held t v d ps) :
    ∃ l : List Int, v = .agg (l.map (Value.int q)).toArray ∧ l.length = n ∧ ∀ x ∈ l, (Lit.int q x).wf = true := by
  simp only [Value.okWide, ht] at hv
  obtain ⟨cs, rfl, h2, _⟩ := hv
  rw [hc] at h2
  obtain ⟨fuel, hf⟩ := h
  obtain ⟨xs, m, rfl, _, _, hx, hi⟩ := DataW.trod_array ht hf
  have hall : ∀ i, i < n → ∃ a : Int, cs[i]? = some (.int q a) ∧ (Lit.int q a).wf = true := by
    intro i hi'
    have h3 := hi i hi'
    rw [hce, Nat.mul_one, List.getElem?_eq_getElem (by omega)] at h3
    obtain ⟨a, ea, _, wa⟩ := DataW.trod_int he h3
    refine ⟨a, ?_, wa⟩
    have h4 := congrArg (fun l => l[0]?) ea
    simpa [Value.cells, List.getElem?_take, List.getElem?_drop] using h4
  have hget : ∀ i, i < n → ∃ a : Int, cs[i]? = some (.int q a) ∧ (Lit.int q a).wf = true := hall
  refine ⟨cs.toList.map (fun v => match v with | .int _ a => a | _ => 0), ?_, by simp [h2], ?_⟩
  · congr 1
    apply Array.ext_getElem?
    intro i
    by_cases hi' : i < n
    · obtain ⟨a, ha, _⟩ := hget i hi'
      simp [ha]
    · simp [Array.getElem?_eq_none (by omega : cs.size ≤ i)]
  · intro x hx
    obtain ⟨v, hv, rfl⟩ := List.mem_map.1 hx
    obtain ⟨i, hi', rfl⟩ := List.mem_iff_getElem.1 hv
    obtain ⟨a, ha, wa⟩ := hget i (by simpa [h2] using hi')
    have : cs.toList[i] = .int q a := by
      have := (Array.getElem?_eq_some_iff.1 ha).2
      simpa using this
    rw [this]
    exact wa
/-- What an event of any kind holds. -/
def EvW (p o h a e : Int) : Prop := (-9223372036854775808 ≤ p ∧ p ≤ 9223372036854775807) ∧ (-9223372036854775808 ≤ o ∧ o ≤ 9223372036854775807) ∧ (0 ≤ h ∧ h < 18446744073709551616) ∧ (0 ≤ a ∧ a < 18446744073709551616) ∧ -9223372036854775808 ≤ e ∧ e ≤ 9223372036854775807
open Go.Joins Go.Deep in
theorem open_evt {H : Type} {enc : TypeId × Value → H} {P : Program} {w : World} {base : Nat} {held : Bool} {r : Reach} {b0 : Nat} {t : TypeId} {f0 f1 f2 f3 f4 : Field} {v : Value} {d : DataW H} {ps : List MemPlace}
    (hs : P.underlying t = some (.struct #[f0, f1, f2, f3, f4])) (hone : oneCellFields P #[f0, f1, f2, f3, f4] = true) (hC : P.cellsOf t = 5) (q0 : P.underlying f0.type = some (.int .i64)) (q1 : P.underlying f1.type = some (.int .i64)) (q2 : P.underlying f2.type = some (.int .u64))
    (q3 : P.underlying f3.type = some (.int .u64)) (q4 : P.underlying f4.type = some (.int .i64))
    (hv : Value.okWide P w r b0 t v) (h : DataW.Trod enc P w base (fun _ => true) held t v d ps) : ∃ x0 x1 x2 x3 x4 : Int, v = .agg #[.int .i64 x0, .int .i64 x1, .int .u64 x2, .int .u64 x3, .int .i64 x4] ∧ EvW x0 x1 x2 x3 x4 := by
  obtain ⟨cs, rfl, hsz⟩ := okWide_struct hs hv
  obtain ⟨c0, c1, c2, c3, c4, rfl⟩ : ∃ c0 c1 c2 c3 c4, cs = #[c0, c1, c2, c3, c4] := by
    obtain ⟨l⟩ := cs
    match l, hsz.trans hC with
    | [c0, c1, c2, c3, c4], _ => exact ⟨c0, c1, c2, c3, c4, rfl⟩
  obtain ⟨fuel, hf⟩ := h
  obtain ⟨xs, n, _, _, hl, hlen, hx⟩ := DataW.trod_struct hs hf
  match xs, hlen with
  | [y0, y1, y2, y3, y4], _ =>
    have h0 := hx 0 f0 rfl
    have h1 := hx 1 f1 rfl
    have h2 := hx 2 f2 rfl
    have h3 := hx 3 f3 rfl
    have h4 := hx 4 f4 rfl
    obtain ⟨o0, k0⟩ := hone_of hone 0 f0 rfl
    obtain ⟨o1, k1⟩ := hone_of hone 1 f1 rfl
    obtain ⟨o2, k2⟩ := hone_of hone 2 f2 rfl
    obtain ⟨o3, k3⟩ := hone_of hone 3 f3 rfl
    obtain ⟨o4, k4⟩ := hone_of hone 4 f4 rfl
    rw [o0, k0] at h0
    rw [o1, k1] at h1
    rw [o2, k2] at h2
    rw [o3, k3] at h3
    rw [o4, k4] at h4
    simp [Value.cells] at h0 h1 h2 h3 h4
    obtain ⟨x0, e0, _, w0⟩ := DataW.trod_int q0 h0
    obtain ⟨x1, e1, _, w1⟩ := DataW.trod_int q1 h1
    obtain ⟨x2, e2, _, w2⟩ := DataW.trod_int q2 h2
    obtain ⟨x3, e3, _, w3⟩ := DataW.trod_int q3 h3
    obtain ⟨x4, e4, _, w4⟩ := DataW.trod_int q4 h4
    simp at e0 e1 e2 e3 e4
    subst e0 e1 e2 e3 e4
    have b0 := Go.bounds_i64 w0
    have b1 := Go.bounds_i64 w1
    have b4 := Go.bounds_i64 w4
    have b2 := u64_bd w2
    have b3 := u64_bd w3
    exact ⟨x0, x1, x2, x3, x4, rfl, by omega, by omega, b2, b3, by omega, by omega⟩
end Go.Proofs.Ytlgoiccekgjhnaa
