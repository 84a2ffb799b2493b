/-
  An argument that is a slice of strings: what its reading says of the value. No conditions beyond those that the lemma states.
-/
import Derived.Test.YtnciidegddhhpaaPst
import Derived.Deep.Strs
namespace Go.Proofs.Ytnciidegddhhpaa
open Go.ChangeShapes Go.WideShapes Go.RowKit Go.Deep
/-- A slice of strings that came in. -/
def IsStrs (w : World) (a : Option Addr) (len cap : Nat) (l : List ByteArray) : Prop := Kws str1 w w.heap.size a len cap l
theorem strs_row : ∀ l : List ByteArray, str1.row l = l.map Value.string
  | [] => rfl
  | x :: l => by rw [Enc.row, strs_row l]; rfl
theorem open_strss {H : Type} {enc : TypeId × Value → H} {P : Program} {w : World} {base : Nat} {held : Bool} {t e : TypeId} {a : Option Addr} {len cap : Nat} {d : DataW H} {ps : List MemPlace}
    (ht : P.underlying t = some (.slice e)) (he : P.underlying e = some .string) (hc : P.cellsOf e = 1)
    (h : DataW.Trod enc P w base (fun _ => true) held t (.slice a len cap) d ps) : ∃ l, IsStrs w a len cap l := by
  obtain ⟨fuel, hf⟩ := h
  rcases Go.Deep.open_strs ht he hc hf with ⟨hcs, _⟩ | ⟨x, ln, cp, m, Sx, hcs, _, hl, hm, hmm, _, hx⟩
  · simp [Value.cells] at hcs
    obtain ⟨rfl, rfl, rfl⟩ := hcs
    exact ⟨[], Kws.none_⟩
  · simp [Value.cells] at hcs
    obtain ⟨rfl, rfl, rfl⟩ := hcs
    rw [if_pos rfl] at hmm
    subst hmm
    refine ⟨(List.range len).map Sx, ⟨by simp, hl, hm, (fun h => by cases h), fun hn => ?_⟩⟩
    obtain ⟨b, o, i⟩ := x
    have h0 := (hx 0 (by omega)).1
    have hi : i = none := by
      cases i with
      | none => rfl
      | some j =>
        simp only [World.cell?, Addr.add] at h0
        split at h0 <;> cases h0
    subst hi
    refine ⟨b, o, rfl, ?_, fun p u hu => ?_⟩
    · rw [Addr.add_lit] at h0
      exact lt_of_some h0
    · rw [strs_row] at hu
      have hp : p < len := by
        have := (List.getElem?_eq_some_iff.1 hu).1
        simpa using this
      have h1 := (hx p (by omega)).1
      rw [Addr.add_lit] at h1
      rw [h1]
      simpa [hp] using hu
end Go.Proofs.Ytnciidegddhhpaa
