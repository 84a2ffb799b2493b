/-
  What insertion, removal and membership have to do with each other, in plain mathematics. No conditions beyond those that each lemma states.
-/
import Derived.Test.YtolfcoaipcaoaaaInsOk
import Derived.Test.YtolfcoaipcaoaaaRem
namespace Go.Proofs.Ytolfcoaipcaoaaa
open Go.ChangeShapes Go.WideShapes Go.ChangeAt Go.RowKit

theorem ins_len' : ∀ {l : List (Int × Int)} {e : Int × Int}, (ins l e).length ≤ l.length + 1
  | [], e => by simp [ins]
  | x :: l, e => by
    simp only [ins]
    split
    · have := ins_len' (l := l) (e := e)
      simp only [List.length_cons]
      omega
    split
    · have := ins_len' (l := l) (e := (x.1, x.2 + e.2))
      simp only [List.length_cons]
      omega
    split <;> simp
theorem insR_len' {l : List (Int × Int)} {e : Int × Int} : (insR l e).1.length ≤ l.length + 1 := by
  unfold insR
  split
  · split
    · exact ins_len'
    · simp
  · simp
theorem insR_free {l : List (Int × Int)} {e : Int × Int} (hv : Va (-1) l) (hp : Pr e.1 e.2) (hf : Free l e) : insR l e = (ins l e, 0) := by
  unfold insR
  rw [if_pos ⟨hv, hp⟩, if_pos hf]
theorem insR_not {l : List (Int × Int)} {e : Int × Int} (hv : Va (-1) l) (hp : Pr e.1 e.2) (hf : ¬ Free l e) : insR l e = ([], 5) := by
  unfold insR
  rw [if_pos ⟨hv, hp⟩, if_neg hf]
theorem remR_has {l : List (Int × Int)} {e : Int × Int} (hv : Va (-1) l) (hp : Pr e.1 e.2) (hf : Has l e) : remR l e = (rem l e, 0) := by
  unfold remR
  rw [if_pos ⟨hv, hp⟩, if_pos hf]
theorem remR_not {l : List (Int × Int)} {e : Int × Int} (hv : Va (-1) l) (hp : Pr e.1 e.2) (hf : ¬ Has l e) : remR l e = ([], 6) := by
  unfold remR
  rw [if_pos ⟨hv, hp⟩, if_neg hf]
theorem insR_free_iff {l : List (Int × Int)} {e : Int × Int} (hv : Va (-1) l) (hp : Pr e.1 e.2) : (insR l e).2 = 0 ↔ Free l e := by
  by_cases hf : Free l e
  · rw [insR_free hv hp hf]; simp [hf]
  · rw [insR_not hv hp hf]; simp [hf]
theorem ins_valid {l : List (Int × Int)} {e : Int × Int} (hv : Va (-1) l) (hp : Pr e.1 e.2) (hf : Free l e) : Va (-1) (ins l e) := ins_va hv (by have := hp.1; omega) hp hf

theorem comm_free {l : List (Int × Int)} {x y : Int × Int} (hv : Va (-1) l) (hx : Pr x.1 x.2) (hy : Pr y.1 y.2) (fx : Free l x) (fy : Free l y) : Free (ins l x) y ↔ Free (ins l y) x := by
  rw [free_mem (ins_valid hv hx fx) hy.2.1, free_mem (ins_valid hv hy fy) hx.2.1]
  have mx := (free_mem hv hx.2.1).1 fx
  have my := (free_mem hv hy.2.1).1 fy
  constructor
  · intro h t ht hin
    rcases (ins_mem hv hy.2.1 fy t).1 ht with h1 | h1
    · exact mx t h1 hin
    · exact h t ((ins_mem hv hx.2.1 fx t).2 (.inr hin)) h1
  · intro h t ht hin
    rcases (ins_mem hv hx.2.1 fx t).1 ht with h1 | h1
    · exact my t h1 hin
    · exact h t ((ins_mem hv hy.2.1 fy t).2 (.inr hin)) h1
/-- Insertions of disjoint extents commute. -/
theorem comm_ins {l : List (Int × Int)} {x y : Int × Int} (hv : Va (-1) l) (hx : Pr x.1 x.2) (hy : Pr y.1 y.2) (fx : Free l x) (fy : Free l y) : insR (ins l x) y = insR (ins l y) x := by
  have vx := ins_valid hv hx fx
  have vy := ins_valid hv hy fy
  by_cases hf : Free (ins l x) y
  · have hf' := (comm_free hv hx hy fx fy).1 hf
    rw [insR_free vx hy hf, insR_free vy hx hf']
    refine Prod.ext ?_ rfl
    refine ext_va (ins_valid vx hy hf) (ins_valid vy hx hf') fun t => ?_
    rw [ins_mem vx hy.2.1 hf t, ins_mem hv hx.2.1 fx t, ins_mem vy hx.2.1 hf' t, ins_mem hv hy.2.1 fy t]
    constructor
    · rintro ((h | h) | h)
      · exact .inl (.inl h)
      · exact .inr h
      · exact .inl (.inr h)
    · rintro ((h | h) | h)
      · exact .inl (.inl h)
      · exact .inr h
      · exact .inl (.inr h)
  · have hf' : ¬ Free (ins l y) x := fun h => hf ((comm_free hv hx hy fx fy).2 h)
    rw [insR_not vx hy hf, insR_not vy hx hf']
/-- Removing what was inserted gives the set before. -/
theorem back_ins {l : List (Int × Int)} {x : Int × Int} (hv : Va (-1) l) (hx : Pr x.1 x.2) (fx : Free l x) : remR (ins l x) x = (l, 0) := by
  have vx := ins_valid hv hx fx
  have hh := ins_has (e := x) hv hx.2.1
  have mx := (free_mem hv hx.2.1).1 fx
  rw [remR_has vx hx hh]
  refine Prod.ext ?_ rfl
  refine ext_va (rem_va hx.2.1 vx) hv fun t => ?_
  rw [rem_mem hx.2.1 vx hh t, ins_mem hv hx.2.1 fx t]
  constructor
  · rintro ⟨h | h, h2⟩
    · exact h
    · exact absurd h h2
  · intro h
    exact ⟨.inl h, mx t h⟩
/-- Inserting what was removed gives the set before. -/
theorem back_rem {l : List (Int × Int)} {x : Int × Int} (hv : Va (-1) l) (hx : Pr x.1 x.2) (hh : Has l x) : insR (rem l x) x = (l, 0) := by
  have vx := rem_va (e := x) hx.2.1 hv
  have hm := rem_mem hx.2.1 hv hh
  have fx : Free (rem l x) x := (free_mem vx hx.2.1).2 fun t ht => ((hm t).1 ht).2
  rw [insR_free vx hx fx]
  refine Prod.ext ?_ rfl
  refine ext_va (ins_valid vx hx fx) hv fun t => ?_
  rw [ins_mem vx hx.2.1 fx t, hm t]
  constructor
  · rintro (h | h)
    · exact h.1
    · obtain ⟨z, hz, h1, h2⟩ := hh
      exact ⟨z, hz, by omega, by omega⟩
  · intro h
    by_cases hin : x.1 ≤ t ∧ t < x.1 + x.2
    · exact .inr hin
    · exact .inl ⟨h, hin⟩
theorem has_not_free {l : List (Int × Int)} {x : Int × Int} (hx : 0 < x.2) (hh : Has l x) : ¬ Free l x := by
  obtain ⟨z, hz, h1, h2⟩ := hh
  intro hf
  have := hf z hz
  omega
/-- In a valid list nothing wraps around. -/
theorem cnt_mem {p : Int} {l : List (Int × Int)} (hv : Va p l) {t : Int} (h0 : 0 ≤ t) (h1 : t ≤ 1000000) : cnt l t = true ↔ Mem l t := by
  simp only [cnt, List.any_eq_true, Mem]
  constructor
  · rintro ⟨x, hx, hh⟩
    have hp := (va_pr hv x hx).2
    obtain ⟨a1, a2, a3⟩ := hp
    simp [hit] at hh
    refine ⟨x, hx, hh.1, ?_⟩
    have := hh.2
    unfold wrap64 at this
    omega
  · rintro ⟨x, hx, h2, h3⟩
    have hp := (va_pr hv x hx).2
    obtain ⟨a1, a2, a3⟩ := hp
    refine ⟨x, hx, ?_⟩
    simp [hit]
    refine ⟨h2, ?_⟩
    unfold wrap64
    omega
theorem tot_sm : ∀ {l : List (Int × Int)} {p a : Int}, Va p l → 0 ≤ a → a + (1048576 - p) ≤ 1000000000 → tot a l = a + sm l
  | [], p, a, _, _, _ => by simp [tot, sm]
  | x :: l, p, a, ⟨h1, h2, h3, h4, h5⟩, h6, h7 => by
    have e : wrap64 (a + x.2) = a + x.2 := by unfold wrap64; omega
    simp only [tot, sm, e]
    rw [tot_sm h5 (by omega) (by omega)]
    omega
theorem tot_valid {l : List (Int × Int)} (hv : Va (-1) l) : tot 0 l = sm l ∧ 0 ≤ sm l ∧ sm l ≤ 1048577 := by
  have := va_sm hv (by omega)
  exact ⟨by rw [tot_sm hv (by omega) (by omega)]; omega, by omega, by omega⟩
/-- The bits of an insertion and of a removal. -/
theorem bit_ins {l : List (Int × Int)} {x : Int × Int} {t : Int} (hv : Va (-1) l) (hx : Pr x.1 x.2) (fx : Free l x) (h0 : 0 ≤ t) (h1 : t ≤ 1000000) : cnt (ins l x) t = (cnt l t || (decide (x.1 ≤ t) && decide (t < x.1 + x.2))) := by
  rw [Bool.eq_iff_iff, cnt_mem (ins_valid hv hx fx) h0 h1, ins_mem hv hx.2.1 fx t, ← cnt_mem hv h0 h1]
  simp
theorem bit_rem {l : List (Int × Int)} {x : Int × Int} {t : Int} (hv : Va (-1) l) (hx : Pr x.1 x.2) (hh : Has l x) (h0 : 0 ≤ t) (h1 : t ≤ 1000000) : cnt (rem l x) t = (cnt l t && !(decide (x.1 ≤ t) && decide (t < x.1 + x.2))) := by
  rw [Bool.eq_iff_iff, cnt_mem (rem_va hx.2.1 hv) h0 h1, rem_mem hx.2.1 hv hh t, ← cnt_mem hv h0 h1]
  simp
  intro _
  omega
end Go.Proofs.Ytolfcoaipcaoaaa
