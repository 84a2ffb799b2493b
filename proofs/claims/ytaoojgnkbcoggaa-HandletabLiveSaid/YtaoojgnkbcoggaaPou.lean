/-
  Take, as a plain function: what it takes and what it leaves are together what was there. Elements that are booleans. No conditions.
-/
import Derived.Test.YtaoojgnkbcoggaaPol
namespace Go.Proofs.Ytaoojgnkbcoggaa
open Go.ChangeShapes Go.WideShapes Go.RowKit

theorem tk_perm {α : Type} {z : α} {l : List α} {d : Int} (h : l ≠ []) : (tkX z l d :: tkL z l d).Perm l := by
  have hix := (ix_lt (d := d) h).1
  have hp : 0 < l.length := List.length_pos_iff.2 h
  obtain ⟨m, hm⟩ : ∃ m, l.length = m + 1 := ⟨l.length - 1, by omega⟩
  obtain ⟨y, hy⟩ : ∃ y, l[m]? = some y := ⟨_, List.getElem?_eq_getElem (by omega)⟩
  obtain ⟨x, hx⟩ : ∃ x, l[ix l d]? = some x := ⟨_, List.getElem?_eq_getElem hix⟩
  have ex : tkX z l d = x := by
    unfold tkX
    rw [List.getD_eq_getElem?_getD, hx]
    rfl
  have el : tkL z l d = (l.set (ix l d) y).take m := by
    unfold tkL
    rw [hm, Nat.add_sub_cancel, List.getD_eq_getElem?_getD, hy]
    rfl
  rw [ex, el]
  have hl : l = l.take m ++ [y] := by
    have e1 : l = l.take (m + 1) := (List.take_of_length_le (by omega)).symm
    have e2 : l.take (m + 1) = l.take m ++ [y] := by rw [List.take_add_one, hy]; rfl
    rw [← e2]
    exact e1
  generalize ix l d = i at *
  by_cases him : i = m
  · subst him
    rw [List.take_set_of_le (Nat.le_refl _)]
    rw [hx] at hy
    obtain rfl := Option.some.inj hy
    have e : (x :: l.take i).Perm (l.take i ++ [x]) := (List.perm_append_singleton _ _).symm
    rw [← hl] at e
    exact e
  · have hi : i < m := by omega
    have ht : (l.take m).length = m := by rw [List.length_take]; omega
    have hxi : (l.take m)[i]? = some x := by rw [List.getElem?_take, if_pos hi, hx]
    rw [List.take_set]
    have goal : (x :: (l.take m).set i y).Perm (l.take m ++ [y]) := by
      generalize l.take m = T at *
      obtain ⟨a, b, rfl, rfl⟩ : ∃ a b, T = a ++ x :: b ∧ a.length = i := by
        refine ⟨T.take i, T.drop (i + 1), ?_, by rw [List.length_take]; omega⟩
        have e := List.take_append_drop i T
        rw [List.drop_eq_getElem_cons (by omega)] at e
        have e3 : T[i]'(by omega) = x := by
          rw [List.getElem?_eq_getElem (by omega)] at hxi
          exact Option.some.inj hxi
        rw [e3] at e
        exact e.symm
      rw [List.set_append_right _ _ (Nat.le_refl _), Nat.sub_self, List.set_cons_zero]
      exact ((List.perm_middle.cons x).trans (List.Perm.swap y x _)).trans ((List.perm_middle.symm.cons y).trans (List.perm_append_singleton y _).symm)
    rw [← hl] at goal
    exact goal
/-- A boolean. -/
def bool1 : Enc Bool where
  k := 1
  ev := fun x => [.bool x]
  len := fun _ => rfl
  one := fun x u hu => by
    simp only [List.mem_singleton] at hu
    subst hu
    rfl
  pos := by omega
theorem bool_rep : ∀ n : Nat, bool1.row (List.replicate n false) = List.replicate n (.bool false)
  | 0 => rfl
  | n + 1 => by rw [List.replicate_succ, List.replicate_succ, Enc.row, bool_rep n]; rfl
theorem ints_row : ∀ l : List Int, int1.row l = iv .i64 l
  | [] => rfl
  | x :: l => by rw [Enc.row, ints_row l]; rfl
theorem Row.kws {w : World} {B n c : Nat} {A : Option Addr} {l : List Int} (h : Row w B A n c (iv .i64 l)) : Kws int1 w B A n c l :=
  ⟨by have := h.len; rwa [iv_len] at this, h.cap, h.small, h.nil, fun hn => by
    obtain ⟨b, o, e, hb, hc⟩ := h.cells hn
    refine ⟨b, o, e, hb, fun p u hu => ?_⟩
    rw [ints_row] at hu
    have hp : p < n := by
      have := (List.getElem?_eq_some_iff.1 hu).1
      have := h.len
      omega
    rw [hc p hp, hu]⟩
/-- The numbers below n. -/
def rng (n : Nat) : List Int := (List.range n).map Int.ofNat
theorem rng_len {n : Nat} : (rng n).length = n := by simp [rng]
theorem rng_succ {n : Nat} : rng (n + 1) = rng n ++ [(n : Int)] := by simp [rng, List.range_succ]
theorem rng_nodup {n : Nat} : (rng n).Nodup := by
  unfold rng List.Nodup
  rw [List.pairwise_map]
  exact List.Pairwise.imp (fun {a b} h e => h (Int.ofNat.inj e)) List.nodup_range
theorem rng_mem {n : Nat} {x : Int} (h : x ∈ rng n) : ∃ j : Nat, x = (j : Int) ∧ j < n := by
  unfold rng at h
  obtain ⟨j, hj, rfl⟩ := List.mem_map.1 h
  exact ⟨j, rfl, List.mem_range.1 hj⟩
theorem rng_0 : rng 0 = [] := rfl
end Go.Proofs.Ytaoojgnkbcoggaa
