/-
  Borrows as plain lists: what lending, giving back and ending give, and what a ledger tells. No conditions beyond those that each lemma states.
-/
import Derived.Test.YtmmlelmkgnhofaaRow
namespace Go.Proofs.Ytmmlelmkgnhofaa
set_option linter.unusedVariables false
set_option linter.unusedSimpArgs false

/-- A borrow: object, holder, mode, count. -/
structure Bo where
  o : Int
  h : Int
  m : Int
  c : Int
/-- One comes before another. -/
def Blt (a b : Bo) : Prop := a.o < b.o ∨ (a.o = b.o ∧ a.h < b.h)
instance bltDec (a b : Bo) : Decidable (Blt a b) := inferInstanceAs (Decidable (_ ∨ (_ ∧ _)))
def Srt (L : List Bo) : Prop := L.Pairwise Blt
/-- The borrows of an object; without one; with one put in its place. -/
def ofL (o : Int) (L : List Bo) : List Bo := L.filter fun x => decide (x.o = o)
def remL (o h : Int) (L : List Bo) : List Bo := L.filter fun x => decide (¬ (x.o = o ∧ x.h = h))
def putL (b : Bo) (L : List Bo) : List Bo := L.filter (fun x => decide (Blt x b)) ++ b :: L.filter (fun x => decide (Blt b x))
/-- The borrow of an object by a holder. -/
def hasL (o h : Int) (L : List Bo) : Option Bo := L.find? fun x => decide (x.o = o ∧ x.h = h)
section
variable {a b x y : Bo} {L A B : List Bo} {o h : Int}
theorem Blt.trans (h1 : Blt a b) (h2 : Blt b x) : Blt a x := by unfold Blt at *; omega
theorem Blt.irr (h1 : Blt a a) : False := by unfold Blt at h1; omega
theorem Blt.tri (hn : ¬ (a.o = b.o ∧ a.h = b.h)) : Blt a b ∨ Blt b a := by unfold Blt; omega
theorem Blt.ne (h1 : Blt a b) : ¬ (a.o = b.o ∧ a.h = b.h) := by unfold Blt at h1; omega
theorem srt_ext (hA : Srt A) (hB : Srt B) (hm : ∀ x, x ∈ A ↔ x ∈ B) : A = B := by
  induction A generalizing B with
  | nil =>
    cases B with
    | nil => rfl
    | cons b B => exact absurd ((hm b).2 (by simp)) (by simp)
  | cons a A ih =>
    cases B with
    | nil => exact absurd ((hm a).1 (by simp)) (by simp)
    | cons b B =>
      obtain ⟨a1, a2⟩ := List.pairwise_cons.1 hA
      obtain ⟨b1, b2⟩ := List.pairwise_cons.1 hB
      have hab : a = b := by
        rcases List.mem_cons.1 ((hm a).1 (by simp)) with e | ha
        · exact e
        · rcases List.mem_cons.1 ((hm b).2 (by simp)) with e | hb
          · exact e.symm
          · exact absurd ((a1 b hb).trans (b1 a ha)) Blt.irr
      subst hab
      rw [ih a2 b2 (fun x => ⟨fun hx => by
        rcases List.mem_cons.1 ((hm x).1 (by simp [hx])) with e | h
        · subst e; exact absurd (a1 x hx) Blt.irr
        · exact h, fun hx => by
        rcases List.mem_cons.1 ((hm x).2 (by simp [hx])) with e | h
        · subst e; exact absurd (b1 x hx) Blt.irr
        · exact h⟩)]
theorem Srt.filter (h : Srt L) (p : Bo → Bool) : Srt (L.filter p) := List.Pairwise.filter p h
theorem Srt.of (h : Srt L) (o : Int) : Srt (ofL o L) := h.filter _
theorem Srt.rem (h : Srt L) (o k : Int) : Srt (remL o k L) := h.filter _
theorem Srt.put (h : Srt L) (b : Bo) : Srt (putL b L) := by
  refine List.pairwise_append.2 ⟨h.filter _, List.pairwise_cons.2 ⟨fun x hx => by simpa using (List.mem_filter.1 hx).2, h.filter _⟩, fun x hx y hy => ?_⟩
  have h1 : Blt x b := by simpa using (List.mem_filter.1 hx).2
  rcases List.mem_cons.1 hy with rfl | hy
  · exact h1
  · exact h1.trans (by simpa using (List.mem_filter.1 hy).2)
theorem Srt.uniq (hL : Srt L) (hx : x ∈ L) (hy : y ∈ L) (e1 : x.o = y.o) (e2 : x.h = y.h) : x = y := by
  induction L with
  | nil => cases hx
  | cons z L ih =>
    obtain ⟨a1, a2⟩ := List.pairwise_cons.1 hL
    rcases List.mem_cons.1 hx with ex | hx' <;> rcases List.mem_cons.1 hy with ey | hy'
    · rw [ex, ey]
    · exact absurd ⟨ex ▸ e1, ex ▸ e2⟩ (a1 y hy').ne
    · exact absurd ⟨ey ▸ e1.symm, ey ▸ e2.symm⟩ (a1 x hx').ne
    · exact ih a2 hx' hy'
theorem mem_of : x ∈ ofL o L ↔ x ∈ L ∧ x.o = o := by simp [ofL]
theorem mem_rem : x ∈ remL o h L ↔ x ∈ L ∧ ¬ (x.o = o ∧ x.h = h) := by
  unfold remL
  rw [List.mem_filter, decide_eq_true_eq]
theorem mem_put : x ∈ putL b L ↔ x = b ∨ (x ∈ L ∧ ¬ (x.o = b.o ∧ x.h = b.h)) := by
  unfold putL
  rw [List.mem_append, List.mem_cons, List.mem_filter, List.mem_filter, decide_eq_true_eq, decide_eq_true_eq]
  constructor
  · rintro (⟨h1, h2⟩ | rfl | ⟨h1, h2⟩)
    · exact .inr ⟨h1, h2.ne⟩
    · exact .inl rfl
    · exact .inr ⟨h1, fun e => h2.ne ⟨e.1.symm, e.2.symm⟩⟩
  · rintro (rfl | ⟨h1, h2⟩)
    · exact .inr (.inl rfl)
    · rcases Blt.tri h2 with h3 | h3
      · exact .inl ⟨h1, h3⟩
      · exact .inr (.inr ⟨h1, h3⟩)
theorem of_put_other (hne : o ≠ b.o) : ofL o (putL b L) = ofL o L := by
  unfold ofL putL
  rw [List.filter_append, List.filter_cons, if_neg (by simpa using fun e => hne e.symm), List.filter_filter, List.filter_filter]
  rcases Int.lt_or_gt_of_ne hne with hlt | hlt
  · rw [List.filter_congr (q := fun x => decide (x.o = o)) (fun x _ => by by_cases e : x.o = o <;> simp [e, Blt, hlt])]
    rw [show L.filter (fun x => decide (x.o = o) && decide (Blt b x)) = [] from List.filter_eq_nil_iff.2 (fun x _ => by simp only [Bool.and_eq_true, decide_eq_true_eq]; unfold Blt; omega)]
    simp
  · rw [show L.filter (fun x => decide (x.o = o) && decide (Blt x b)) = [] from List.filter_eq_nil_iff.2 (fun x _ => by simp only [Bool.and_eq_true, decide_eq_true_eq]; unfold Blt; omega)]
    rw [List.filter_congr (q := fun x => decide (x.o = o)) (fun x _ => by by_cases e : x.o = o <;> simp [e, Blt, hlt])]
    simp
theorem of_put_same : ofL b.o (putL b L) = (ofL b.o L).filter (fun x => decide (x.h < b.h)) ++ b :: (ofL b.o L).filter (fun x => decide (b.h < x.h)) := by
  unfold ofL putL
  rw [List.filter_append, List.filter_cons, if_pos (by simp), List.filter_filter, List.filter_filter, List.filter_filter, List.filter_filter]
  refine congr (congrArg _ (List.filter_congr fun x _ => ?_)) (congrArg _ (List.filter_congr fun x _ => ?_)) <;> by_cases e : x.o = b.o <;> simp [e, Blt]
theorem of_rem_other (hne : o ≠ y.o) : ofL o (remL y.o h L) = ofL o L := by
  unfold ofL remL
  rw [List.filter_filter]
  refine List.filter_congr fun x _ => ?_
  by_cases e : x.o = o
  · have : x.o ≠ y.o := by omega
    simp [e, hne]
  · simp [e]
theorem of_rem_ne {o o' : Int} (hne : o ≠ o') : ofL o (remL o' h L) = ofL o L := of_rem_other (y := ⟨o', 0, 0, 0⟩) hne
theorem of_rem_same : ofL o (remL o h L) = (ofL o L).filter (fun x => decide (x.h ≠ h)) := by
  unfold ofL remL
  rw [List.filter_filter, List.filter_filter]
  refine List.filter_congr fun x _ => ?_
  by_cases e : x.o = o <;> simp [e]
/-- The place of a holder among the borrows of one object. -/
structure Lbo (l : List Bo) (k : Int) (i : Nat) : Prop where
  le : i ≤ l.length
  lo : ∀ j z, j < i → l[j]? = some z → z.h < k
  hi : ∀ j z, i ≤ j → l[j]? = some z → k ≤ z.h
theorem split_at {l : List Bo} {k : Int} {i : Nat} (H : Lbo l k i) : l.filter (fun x => decide (x.h < k)) = l.take i := by
  have h1 := List.take_append_drop i l
  conv => lhs; rw [← h1]
  rw [List.filter_append, List.filter_eq_self.2, List.filter_eq_nil_iff.2, List.append_nil]
  · intro x hx
    obtain ⟨j, hj⟩ := List.getElem?_of_mem hx
    rw [List.getElem?_drop] at hj
    have := H.hi _ _ (by omega) hj
    simpa using this
  · intro x hx
    obtain ⟨j, hj⟩ := List.getElem?_of_mem hx
    have hlt : j < (l.take i).length := (List.getElem?_eq_some_iff.1 hj).1
    rw [List.length_take] at hlt
    rw [List.getElem?_take, if_pos (by omega)] at hj
    simpa using H.lo _ _ (by omega) hj
theorem split_gt {l : List Bo} {k : Int} {i : Nat} (H : Lbo l k i) (hn : ∀ z, l[i]? = some z → z.h ≠ k) (hs : l.Pairwise fun x y => x.h < y.h) : l.filter (fun x => decide (k < x.h)) = l.drop i := by
  have h1 := List.take_append_drop i l
  conv => lhs; rw [← h1]
  rw [List.filter_append, List.filter_eq_nil_iff.2, List.filter_eq_self.2, List.nil_append]
  · intro x hx
    obtain ⟨j, hj⟩ := List.getElem?_of_mem hx
    rw [List.getElem?_drop] at hj
    have h2 := H.hi _ _ (by omega) hj
    rcases Nat.eq_zero_or_pos j with rfl | hp
    · have := hn x hj
      simp; omega
    · have hi : i < l.length := by have := (List.getElem?_eq_some_iff.1 hj).1; omega
      have h3 := H.hi i _ (Nat.le_refl _) (List.getElem?_eq_getElem hi)
      have hj' := (List.getElem?_eq_some_iff.1 hj).1
      have h4 := List.pairwise_iff_getElem.1 hs i (i + j) hi hj' (by omega)
      rw [List.getElem?_eq_getElem hj'] at hj
      obtain rfl := Option.some.inj hj
      simp; omega
  · intro x hx
    obtain ⟨j, hj⟩ := List.getElem?_of_mem hx
    have hlt : j < (l.take i).length := (List.getElem?_eq_some_iff.1 hj).1
    rw [List.length_take] at hlt
    rw [List.getElem?_take, if_pos (by omega)] at hj
    have := H.lo _ _ (by omega) hj
    simp; omega
theorem split_eq {l : List Bo} {k : Int} {i : Nat} {z : Bo} (H : Lbo l k i) (hz : l[i]? = some z) (hk : z.h = k) (hs : l.Pairwise fun x y => x.h < y.h) : l.filter (fun x => decide (k < x.h)) = l.drop (i + 1) := by
  have h1 := List.take_append_drop (i + 1) l
  have hil := (List.getElem?_eq_some_iff.1 hz).1
  have hzi : l[i] = z := by rw [List.getElem?_eq_getElem hil] at hz; exact Option.some.inj hz
  conv => lhs; rw [← h1]
  rw [List.filter_append, List.filter_eq_nil_iff.2, List.filter_eq_self.2, List.nil_append]
  · intro x hx
    obtain ⟨j, hj⟩ := List.getElem?_of_mem hx
    rw [List.getElem?_drop] at hj
    have hj' := (List.getElem?_eq_some_iff.1 hj).1
    have h4 := List.pairwise_iff_getElem.1 hs i (i + 1 + j) hil hj' (by omega)
    rw [List.getElem?_eq_getElem hj'] at hj
    obtain rfl := Option.some.inj hj
    rw [hzi, hk] at h4
    simpa using h4
  · intro x hx
    obtain ⟨j, hj⟩ := List.getElem?_of_mem hx
    have hlt : j < (l.take (i + 1)).length := (List.getElem?_eq_some_iff.1 hj).1
    rw [List.length_take] at hlt
    rw [List.getElem?_take, if_pos (by omega)] at hj
    rcases Nat.lt_or_ge j i with h | h
    · have := H.lo _ _ h hj
      simp; omega
    · obtain rfl : j = i := by omega
      rw [hz] at hj
      obtain rfl := Option.some.inj hj
      simp; omega
theorem Srt.hs (hL : Srt L) (o : Int) : (ofL o L).Pairwise fun x y => x.h < y.h := by
  refine (hL.of o).imp_of_mem fun {x y} hx hy hlt => ?_
  have h1 := (mem_of.1 hx).2
  have h2 := (mem_of.1 hy).2
  unfold Blt at hlt
  omega
/-- The landed list behind a store, an insertion, a deletion. -/
theorem of_set {i : Nat} {z : Bo} (hL : Srt L) (H : Lbo (ofL b.o L) b.h i) (hz : (ofL b.o L)[i]? = some z) (hk : z.h = b.h) : (ofL b.o L).set i b = ofL b.o (putL b L) := by
  have hil := (List.getElem?_eq_some_iff.1 hz).1
  rw [of_put_same, split_at H, split_eq H hz hk (hL.hs _), List.set_eq_take_append_cons_drop, if_pos hil]
theorem of_ins {i : Nat} (hL : Srt L) (H : Lbo (ofL b.o L) b.h i) (hn : ∀ z, (ofL b.o L)[i]? = some z → z.h ≠ b.h) : (ofL b.o L).take i ++ b :: (ofL b.o L).drop i = ofL b.o (putL b L) := by
  rw [of_put_same, split_at H, split_gt H hn (hL.hs _)]
theorem of_del {i : Nat} {z : Bo} (hL : Srt L) (H : Lbo (ofL o L) h i) (hz : (ofL o L)[i]? = some z) (hk : z.h = h) : (ofL o L).take i ++ (ofL o L).drop (i + 1) = ofL o (remL o h L) := by
  rw [of_rem_same, ← split_at H, ← split_eq H hz hk (hL.hs _)]
  have : ∀ l : List Bo, l.Pairwise (fun x y => x.h < y.h) → l.filter (fun x => decide (x.h < h)) ++ l.filter (fun x => decide (h < x.h)) = l.filter (fun x => decide (x.h ≠ h)) := by
    intro l hl
    induction l with
    | nil => rfl
    | cons y l ih =>
      obtain ⟨a1, a2⟩ := List.pairwise_cons.1 hl
      have ih := ih a2
      rcases Int.lt_trichotomy y.h h with h1 | h1 | h1
      · rw [List.filter_cons, if_pos (by simpa using h1), List.filter_cons, if_neg (by simp; omega), List.filter_cons, if_pos (by simp; omega), ← ih]
        rfl
      · rw [List.filter_cons, if_neg (by simp; omega), List.filter_cons, if_neg (by simp; omega), List.filter_cons, if_neg (by simp; omega), ← ih]
      · have e1 : l.filter (fun x => decide (x.h < h)) = [] := List.filter_eq_nil_iff.2 fun x hx => by have := a1 x hx; simp; omega
        rw [List.filter_cons, if_neg (by simp; omega), List.filter_cons, if_pos (by simpa using h1), List.filter_cons, if_pos (by simp; omega), ← ih, e1]
        rfl
  exact this _ (hL.hs _)
/-- What is found at a holder's place. -/
theorem has_at {i : Nat} (hL : Srt L) (H : Lbo (ofL o L) h i) : hasL o h L = (ofL o L)[i]?.filter (fun z => decide (z.h = h)) := by
  cases hz : (ofL o L)[i]? with
  | none =>
    rw [Option.filter_none]
    refine List.find?_eq_none.2 fun x hx he => ?_
    simp only [decide_eq_true_eq] at he
    obtain ⟨j, hj⟩ := List.getElem?_of_mem (mem_of.2 ⟨hx, he.1⟩)
    have h1 := List.getElem?_eq_none_iff.1 hz
    have h2 := (List.getElem?_eq_some_iff.1 hj).1
    have := H.lo j x (by omega) hj
    omega
  | some z =>
    by_cases hk : z.h = h
    · rw [Option.filter_some, if_pos (by simpa using hk)]
      obtain ⟨z1, z2⟩ := mem_of.1 (List.mem_of_getElem? hz)
      cases hf : hasL o h L with
      | none =>
        have := List.find?_eq_none.1 hf z z1
        simp [z2, hk] at this
      | some y =>
        have h1 := List.find?_some hf
        have h2 := List.mem_of_find?_eq_some hf
        simp only [decide_eq_true_eq] at h1
        rw [hL.uniq h2 z1 (by omega) (by omega)]
    · rw [Option.filter_some, if_neg (by simpa using hk)]
      refine List.find?_eq_none.2 fun x hx he => ?_
      simp only [decide_eq_true_eq] at he
      obtain ⟨j, hj⟩ := List.getElem?_of_mem (mem_of.2 ⟨hx, he.1⟩)
      rcases Nat.lt_trichotomy j i with h1 | h1 | h1
      · have := H.lo j x h1 hj
        omega
      · subst h1
        rw [hj] at hz
        obtain rfl := Option.some.inj hz
        exact hk he.2
      · have h2 := H.hi i z (Nat.le_refl _) hz
        have hij := (List.getElem?_eq_some_iff.1 hj)
        have hii := (List.getElem?_eq_some_iff.1 hz)
        have h4 := List.pairwise_iff_getElem.1 (hL.hs o) i j hii.1 hij.1 h1
        rw [hii.2, hij.2] at h4
        omega
theorem has_some {z : Bo} (hf : hasL o h L = some z) : z ∈ L ∧ z.o = o ∧ z.h = h := by
  have h1 := List.find?_some hf
  simp only [decide_eq_true_eq] at h1
  exact ⟨List.mem_of_find?_eq_some hf, h1⟩
theorem has_none (hf : hasL o h L = none) : ∀ z ∈ L, ¬ (z.o = o ∧ z.h = h) := fun z hz => by
  have := List.find?_eq_none.1 hf z hz
  simpa using this
end
end Go.Proofs.Ytmmlelmkgnhofaa
