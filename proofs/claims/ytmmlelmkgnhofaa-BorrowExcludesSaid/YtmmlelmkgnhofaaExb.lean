/-
  At most one plugin may write to an object, and no other one may read it then (owner: 0; holders: 1 to 3). No conditions beyond those that each lemma states.
-/
import Derived.Test.YtmmlelmkgnhofaaPvb
namespace Go.Proofs.Ytmmlelmkgnhofaa
open Go.ChangeShapes Go.WideShapes Go.RowKit
set_option linter.unusedVariables false
set_option linter.unusedSimpArgs false
set_option maxHeartbeats 4000000

/-- Holders between 1 and 3. -/
def Hs (L : List Bo) : Prop := ∀ x ∈ L, 1 ≤ x.h ∧ x.h ≤ 3
theorem lend_hs {o h m : Int} {L : List Bo} (H : Hs L) (h2 : 1 ≤ h ∧ h ≤ 3) : Hs (lendL o h m L) := by
  intro x hx
  unfold lendL at hx
  split at hx
  · rcases mem_put.1 hx with rfl | ⟨h3, _⟩
    · exact h2
    · exact H x h3
  · exact H x hx
theorem stp_hs {x0 x1 x2 x3 : Int} {L : List Bo} (h : Hs L) (h2 : 1 ≤ x2 % 4 ∧ x2 % 4 ≤ 3) : Hs (stpL x0 x1 x2 x3 L) := by
  intro x hx
  unfold stpL at hx
  split at hx
  · exact h x (List.mem_filter.1 hx).1
  · split at hx
    · exact h x (List.mem_filter.1 hx).1
    · split at hx
      · unfold relL at hx
        split at hx
        · exact h x hx
        · split at hx
          · exact h x (mem_rem.1 hx).1
          · rcases mem_put.1 hx with rfl | ⟨h3, _⟩
            · exact h2
            · exact h x h3
      · exact lend_hs h h2 x hx
/-- Whether a plugin may use an object. -/
def may (o a : Int) (L : List Bo) (q : Nat) : Bool := accE o (q : Int) ((q : Int) == 0) a L == 0
def cw (f : Nat → Bool) : Nat → Nat
  | 0 => 0
  | q + 1 => cw f q + (if f q then 1 else 0)
theorem cw_le (f : Nat → Bool) (q : Nat) : cw f q ≤ q := by
  induction q with
  | zero => exact Nat.le_refl _
  | succ q ih => rw [cw]; split <;> omega
theorem may_own {o a : Int} {L : List Bo} (ha : 1 ≤ a ∧ a ≤ 4) : may o a L 0 = (ownE o a L == 0) := by
  unfold may accE
  rw [if_neg (by omega)]
  rfl
theorem may_oth {o a : Int} {L : List Bo} {q : Nat} (ha : 1 ≤ a ∧ a ≤ 4) (hq : 0 < q) : may o a L q = (othE o q a L == 0) := by
  have : ((q : Int) == 0) = false := by
    rw [beq_eq_false_iff_ne]
    omega
  unfold may accE
  rw [if_neg (by omega), this]
  rfl
theorem has_uniq {N : Nat} {o q : Int} {L : List Bo} {x : Bo} (H : Wl N L) (hx : x ∈ L) (hm : x.m = 2) (ho : x.o = o) : hasL o q L = if q = x.h then some x else none := by
  cases e : hasL o q L with
  | none =>
    rw [if_neg (fun e' => has_none e x hx ⟨ho, e'.symm⟩)]
  | some z =>
    obtain ⟨h1, h2, h3⟩ := has_some e
    have := (H.ex x hx hm).2 z h1 (h2.trans ho.symm)
    subst this
    rw [if_pos h3.symm]
theorem has_no_of {o q : Int} {L : List Bo} (h : ofL o L = []) : hasL o q L = none := by
  cases e : hasL o q L with
  | none => rfl
  | some z =>
    obtain ⟨h1, h2, h3⟩ := has_some e
    have : z ∈ ofL o L := mem_of.2 ⟨h1, h2⟩
    rw [h] at this
    cases this
theorem oth_none {o q a : Int} {L : List Bo} (h : hasL o q L = none) : (othE o q a L == 0) = false := by unfold othE; rw [h]; rfl
theorem excl {N : Nat} {L : List Bo} {o : Int} (H : Wl N L) (hs : Hs L) :
    (∀ q, q < 4 → may o 2 L q = true → may o 1 L q = true) ∧ ((cw (may o 2 L) 4 = 0 ∧ 1 ≤ cw (may o 1 L) 4) ∨ (cw (may o 2 L) 4 = 1 ∧ cw (may o 1 L) 4 = 1)) := by
  have hw0 := may_own (o := o) (a := 2) (L := L) (by omega)
  have hr0 := may_own (o := o) (a := 1) (L := L) (by omega)
  have hw := fun q (hq : 0 < q) => may_oth (o := o) (a := 2) (L := L) (q := q) (by omega) hq
  have hr := fun q (hq : 0 < q) => may_oth (o := o) (a := 1) (L := L) (q := q) (by omega) hq
  rcases H.md_or (o := o) with h0 | h1 | h2
  · have hn := fun q : Int => has_no_of (q := q) (md_none h0 H.mo)
    have w0 : may o 2 L 0 = true := by rw [hw0]; unfold ownE; rw [h0]; rfl
    have r0 : may o 1 L 0 = true := by rw [hr0]; unfold ownE; rw [h0]; rfl
    have wq : ∀ q, 0 < q → may o 2 L q = false := fun q hq => by rw [hw q hq, oth_none (hn _)]
    have rq : ∀ q, 0 < q → may o 1 L q = false := fun q hq => by rw [hr q hq, oth_none (hn _)]
    refine ⟨fun q _ hq => ?_, .inr ?_⟩
    · by_cases h : q = 0
      · subst h; exact r0
      · rw [wq q (by omega)] at hq; cases hq
    · simp [cw, w0, r0, wq, rq]
  · have hm : ∀ q z, hasL o q L = some z → z.m = 1 := fun q z e => by
      obtain ⟨h3, h4, _⟩ := has_some e
      have := H.md_all h3
      rw [h4] at this
      omega
    have w0 : may o 2 L 0 = false := by rw [hw0]; unfold ownE; rw [h1]; rfl
    have r0 : may o 1 L 0 = true := by rw [hr0]; unfold ownE; rw [h1]; rfl
    have wq : ∀ q, 0 < q → may o 2 L q = false := fun q hq => by
      rw [hw q hq]
      unfold othE
      cases e : hasL o (q : Int) L with
      | none => rfl
      | some z =>
        simp only
        rw [hm _ z e]
        rfl
    refine ⟨fun q _ hq => ?_, .inl ?_⟩
    · by_cases h : q = 0
      · subst h; exact r0
      · rw [wq q (by omega)] at hq; cases hq
    · simp [cw, w0, r0, wq]
      omega
  · obtain ⟨x, hx, ho, hxm⟩ := md_mem (o := o) (L := L) (by omega)
    rw [h2] at hxm
    have hu := fun q => has_uniq (q := q) H hx hxm ho
    have hb := hs x hx
    have w0 : may o 2 L 0 = false := by rw [hw0]; unfold ownE; rw [h2]; rfl
    have r0 : may o 1 L 0 = false := by rw [hr0]; unfold ownE; rw [h2]; rfl
    have wq : ∀ q : Nat, 0 < q → may o 2 L q = decide ((q : Int) = x.h) := fun q hq => by
      rw [hw q hq]
      unfold othE
      rw [hu]
      by_cases e : (q : Int) = x.h
      · rw [if_pos e, decide_eq_true e]
        simp only
        rw [hxm]
        rfl
      · rw [if_neg e, decide_eq_false e]
        rfl
    have rq : ∀ q : Nat, 0 < q → may o 1 L q = decide ((q : Int) = x.h) := fun q hq => by
      rw [hr q hq]
      unfold othE
      rw [hu]
      by_cases e : (q : Int) = x.h
      · rw [if_pos e, decide_eq_true e]
        simp only
        rw [hxm]
        rfl
      · rw [if_neg e, decide_eq_false e]
        rfl
    refine ⟨fun q _ hq => ?_, .inr ?_⟩
    · by_cases h : q = 0
      · subst h; rw [w0] at hq; cases hq
      · rw [wq q (by omega)] at hq
        rw [rq q (by omega)]
        exact hq
    · have e1 := wq 1 (by omega)
      have e2 := wq 2 (by omega)
      have e3 := wq 3 (by omega)
      have d1 := rq 1 (by omega)
      have d2 := rq 2 (by omega)
      have d3 := rq 3 (by omega)
      have hc : x.h = 1 ∨ x.h = 2 ∨ x.h = 3 := by omega
      rcases hc with h | h | h <;> rw [h] at e1 e2 e3 d1 d2 d3 <;> simp [cw, w0, r0, e1, e2, e3, d1, d2, d3]
end Go.Proofs.Ytmmlelmkgnhofaa
