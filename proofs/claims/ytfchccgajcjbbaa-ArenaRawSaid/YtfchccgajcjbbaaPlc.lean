/-
  An allocator in plain mathematics: the shortest free extent, the sorted list of allocated extents, the free set as their complement, what an allocation and a release keep, and that the reference's own list determines both. No conditions beyond those that each lemma states.
-/
import Derived.Test.YtfchccgajcjbbaaSet
namespace Go.Proofs.Ytfchccgajcjbbaa

/-- One step of the search for the shortest extent of at least s bytes. -/
def bstep (s : Int) (b : Option (Int × Int)) (e : Int × Int) : Option (Int × Int) := match b with
  | none => if s ≤ e.2 then some e else none
  | some x => if s ≤ e.2 ∧ e.2 < x.2 then some e else some x
/-- The first of the shortest extents of at least s bytes. -/
def best (s : Int) (l : List (Int × Int)) : Option (Int × Int) := l.foldl (bstep s) none
theorem best_step {s : Int} {l : List (Int × Int)} {k : Nat} {x : Int × Int} (h : l[k]? = some x) : best s (l.take (k + 1)) = bstep s (best s (l.take k)) x := by
  rw [take_one h]
  simp [best, List.foldl_append]
theorem best_snoc {s : Int} {l : List (Int × Int)} {x : Int × Int} : best s (l ++ [x]) = bstep s (best s l) x := by simp [best, List.foldl_append]
def BestIs (s : Int) (l : List (Int × Int)) : Option (Int × Int) → Prop
  | none => ∀ y ∈ l, y.2 < s
  | some x => x ∈ l ∧ s ≤ x.2 ∧ ∀ y ∈ l, s ≤ y.2 → x.2 ≤ y.2
theorem bestIs_step {s : Int} {l : List (Int × Int)} {e : Int × Int} : ∀ {b : Option (Int × Int)}, BestIs s l b → BestIs s (l ++ [e]) (bstep s b e)
  | none, ih => by
    simp only [bstep]
    split
    · refine ⟨by simp, by assumption, fun y hy hs => ?_⟩
      rcases List.mem_append.1 hy with h2 | h2
      · have := ih y h2; omega
      · simp at h2; subst h2; omega
    · intro y hy
      rcases List.mem_append.1 hy with h2 | h2
      · exact ih y h2
      · simp at h2; subst h2; omega
  | some z, ⟨i1, i2, i3⟩ => by
    simp only [bstep]
    split
    · rename_i h2
      refine ⟨by simp, h2.1, fun y hy hs => ?_⟩
      rcases List.mem_append.1 hy with h3 | h3
      · have := i3 y h3 hs; omega
      · simp at h3; subst h3; omega
    · rename_i h2
      refine ⟨List.mem_append.2 (.inl i1), i2, fun y hy hs => ?_⟩
      rcases List.mem_append.1 hy with h3 | h3
      · exact i3 y h3 hs
      · simp at h3; subst h3; omega
theorem best_spec {s : Int} {l : List (Int × Int)} : ∀ {k : Nat}, k ≤ l.length → BestIs s (l.take k) (best s (l.take k))
  | 0, _ => by simp [best, BestIs]
  | k + 1, hk => by
    have hx : l[k]? = some l[k] := List.getElem?_eq_getElem (by omega)
    rw [best_step hx, take_one hx]
    exact bestIs_step (best_spec (by omega))
theorem best_is {s : Int} {l : List (Int × Int)} : BestIs s l (best s l) := by
  have := best_spec (s := s) (l := l) (Nat.le_refl _)
  rwa [List.take_length] at this
theorem best_none {s : Int} {l : List (Int × Int)} (h : best s l = none) : ∀ y ∈ l, y.2 < s := by
  have := best_is (s := s) (l := l)
  rw [h] at this
  exact this
theorem best_some {s : Int} {l : List (Int × Int)} {x : Int × Int} (h : best s l = some x) : x ∈ l ∧ s ≤ x.2 ∧ ∀ y ∈ l, s ≤ y.2 → x.2 ≤ y.2 := by
  have := best_is (s := s) (l := l)
  rw [h] at this
  exact this

/-- An extent of the bytes below n. -/
def In (n : Int) (x : Int × Int) : Prop := 0 ≤ x.1 ∧ 0 < x.2 ∧ x.1 + x.2 ≤ n
/-- One extent ends before the other begins. -/
def Bf (x y : Int × Int) : Prop := x.1 + x.2 ≤ y.1
def Dj (x y : Int × Int) : Prop := x.1 + x.2 ≤ y.1 ∨ y.1 + y.2 ≤ x.1
/-- The free set F and the allocated extents A of an allocator of n bytes. -/
structure Gd (n : Int) (F A : List (Int × Int)) : Prop where
  n0 : 0 ≤ n
  n1 : n ≤ 1048576
  va : Va (-1) F
  fm : ∀ t, Mem F t ↔ (0 ≤ t ∧ t < n) ∧ ¬ Mem A t
  asc : A.Pairwise Bf
  inn : ∀ x ∈ A, In n x

section
variable {n : Int} {F A U : List (Int × Int)}
theorem gd_lt (h : Gd n F A) {j k : Nat} {x y : Int × Int} (hj : A[j]? = some x) (hk : A[k]? = some y) (hjk : j < k) : x.1 + x.2 ≤ y.1 := by
  obtain ⟨h1, rfl⟩ := List.getElem?_eq_some_iff.1 hj
  obtain ⟨h2, rfl⟩ := List.getElem?_eq_some_iff.1 hk
  exact List.pairwise_iff_getElem.1 h.asc j k h1 h2 hjk
theorem gd_in (h : Gd n F A) {j : Nat} {x : Int × Int} (hj : A[j]? = some x) : In n x := h.inn x (List.mem_of_getElem? hj)
theorem gd_off (h : Gd n F A) {j k : Nat} {x y : Int × Int} (hj : A[j]? = some x) (hk : A[k]? = some y) (hjk : j < k) : x.1 < y.1 := by
  have := gd_lt h hj hk hjk
  have := (gd_in h hj).2.1
  omega
theorem va_count {p : Int} : ∀ {l : List (Int × Int)}, Va p l → p ≤ 1048576 → 2 * (l.length : Int) ≤ 1048576 - p
  | [], _, hp => by simp; omega
  | x :: l, ⟨h1, _, h3, h4, h5⟩, hp => by
    have := va_count h5 h4
    simp only [List.length_cons]
    omega
theorem gd_flen (h : Gd n F A) : F.length ≤ 524289 := by
  have := va_count h.va (by omega)
  omega
theorem gd_new (h0 : 0 ≤ n) (h1 : n ≤ 1048576) : Gd n (cmp 0 [] n) [] := by
  refine ⟨h0, h1, cmp_va (l := []) (p := 0) trivial (by omega) h0 h1 (by omega) (by omega), fun t => ?_, List.Pairwise.nil, fun x hx => by cases hx⟩
  rw [cmp_mem (l := []) (p := 0) trivial (by omega) h0 t]
  simp [mem_nil]
/-- Where the extents with an Off of at least off begin. -/
def Lb (A : List (Int × Int)) (off : Int) (i : Nat) : Prop := i ≤ A.length ∧ (∀ j x, j < i → A[j]? = some x → x.1 < off) ∧ (∀ j x, i ≤ j → A[j]? = some x → off ≤ x.1)
theorem lb_lo (h : Gd n F A) {off : Int} {k : Nat} {x : Int × Int} (hx : A[k]? = some x) (hlt : x.1 < off) : ∀ j y, j < k + 1 → A[j]? = some y → y.1 < off := by
  intro j y hj hy
  by_cases he : j = k
  · subst he
    rw [hx] at hy
    obtain rfl := Option.some.inj hy
    exact hlt
  · have := gd_off h hy hx (by omega)
    omega
theorem lb_hi (h : Gd n F A) {off : Int} {k : Nat} {x : Int × Int} (hx : A[k]? = some x) (hle : off ≤ x.1) : ∀ j y, k ≤ j → A[j]? = some y → off ≤ y.1 := by
  intro j y hj hy
  by_cases he : j = k
  · subst he
    rw [hx] at hy
    obtain rfl := Option.some.inj hy
    exact hle
  · have := gd_off h hx hy (by omega)
    omega
theorem lb_found (h : Gd n F A) {e : Int × Int} {i : Nat} (hi : Lb A e.1 i) : A[i]? = some e ↔ e ∈ A := by
  constructor
  · exact fun h => List.mem_of_getElem? h
  · intro hm
    obtain ⟨j, hj⟩ := List.mem_iff_getElem?.1 hm
    rcases Nat.lt_trichotomy j i with h1 | rfl | h1
    · have := hi.2.1 j e h1 hj; omega
    · exact hj
    · have hil : i < A.length := by
        have := (List.getElem?_eq_some_iff.1 hj).1
        omega
      have g1 : A[i]? = some A[i] := List.getElem?_eq_getElem hil
      have g2 := hi.2.2 i _ (Nat.le_refl _) g1
      have g3 := gd_off h g1 hj h1
      omega
theorem mem_in {l : List (Int × Int)} {x : Int × Int} (h : x ∈ l) : ∀ t, x.1 ≤ t ∧ t < x.1 + x.2 → Mem l t := fun _ ht => ⟨x, h, ht⟩
theorem apart_of {x y : Int × Int} (hx : 0 < x.2) (hy : 0 < y.2) (h : ∀ t, x.1 ≤ t ∧ t < x.1 + x.2 → ¬ (y.1 ≤ t ∧ t < y.1 + y.2)) : Dj x y := by
  unfold Dj
  have h1 := h x.1
  have h2 := h y.1
  omega
theorem mem_perm {l m : List (Int × Int)} (h : l.Perm m) {t : Int} : Mem l t ↔ Mem m t := by
  unfold Mem
  constructor
  · rintro ⟨x, hx, h1⟩; exact ⟨x, h.mem_iff.1 hx, h1⟩
  · rintro ⟨x, hx, h1⟩; exact ⟨x, h.mem_iff.2 hx, h1⟩
theorem mem_split {i : Nat} {e : Int × Int} {t : Int} : Mem (A.take i ++ e :: A.drop i) t ↔ Mem A t ∨ (e.1 ≤ t ∧ t < e.1 + e.2) := by
  have : (A.take i ++ e :: A.drop i).Perm (e :: A) := by
    refine List.perm_middle.trans ?_
    rw [List.take_append_drop]
  rw [mem_perm this, mem_cons, or_comm]
/-- An allocation. -/
theorem gd_alloc (h : Gd n F A) {s : Int} {x : Int × Int} (hb : best s F = some x) (hs : 0 < s) {i : Nat} (hi : Lb A x.1 i) :
    Gd n (rem F (x.1, s)) (A.take i ++ (x.1, s) :: A.drop i) ∧ Has F (x.1, s) ∧ Pr x.1 s := by
  obtain ⟨hx, hsx, _⟩ := best_some hb
  obtain ⟨_, p1, p2, p3⟩ := va_pr h.va x hx
  have hhas : Has F (x.1, s) := ⟨x, hx, Int.le_refl _, by simp only; omega⟩
  have hfree : ∀ t, x.1 ≤ t ∧ t < x.1 + s → Mem F t := fun t ht => ⟨x, hx, by omega, by omega⟩
  have hin : In n (x.1, s) := by
    have a := (h.fm x.1).1 (hfree _ (by omega))
    have b := (h.fm (x.1 + s - 1)).1 (hfree _ (by omega))
    exact ⟨by simp only; omega, hs, by simp only; omega⟩
  have hdj : ∀ y ∈ A, Dj y (x.1, s) := fun y hy => by
    refine apart_of (h.inn y hy).2.1 hs fun t ht ht' => ?_
    have := (h.fm t).1 (hfree t ht')
    exact this.2 ⟨y, hy, ht⟩
  refine ⟨⟨h.n0, h.n1, rem_va hs h.va, fun t => ?_, ?_, ?_⟩, hhas, p1, hs, by omega⟩
  · rw [rem_mem hs h.va hhas, h.fm, mem_split]
    constructor
    · rintro ⟨⟨h1, h2⟩, h3⟩
      refine ⟨h1, ?_⟩
      rintro (h4 | h4)
      · exact h2 h4
      · exact h3 h4
    · rintro ⟨h1, h2⟩
      exact ⟨⟨h1, fun h4 => h2 (.inl h4)⟩, fun h4 => h2 (.inr h4)⟩
  · have hA := h.asc
    rw [← List.take_append_drop i A, List.pairwise_append] at hA
    obtain ⟨a1, a2, a3⟩ := hA
    rw [List.pairwise_append, List.pairwise_cons]
    refine ⟨a1, ⟨fun y hy => ?_, a2⟩, fun y hy z hz => ?_⟩
    · obtain ⟨j, hj⟩ := List.mem_iff_getElem?.1 hy
      rw [List.getElem?_drop] at hj
      have := hi.2.2 _ y (by omega) hj
      have h2 := hdj y (List.mem_of_getElem? hj)
      have h3 := (h.inn y (List.mem_of_getElem? hj)).2.1
      unfold Bf
      unfold Dj at h2
      simp only at *
      omega
    · rcases List.mem_cons.1 hz with rfl | hz
      · obtain ⟨j, hj⟩ := List.mem_iff_getElem?.1 hy
        rw [List.getElem?_take] at hj
        split at hj
        · rename_i hlt
          have := hi.2.1 j y hlt hj
          have h2 := hdj y (List.mem_of_getElem? hj)
          unfold Bf
          unfold Dj at h2
          simp only at *
          omega
        · cases hj
      · exact a3 y hy z hz
  · intro y hy
    rcases List.mem_append.1 hy with h1 | h1
    · exact h.inn y (List.mem_of_mem_take h1)
    · rcases List.mem_cons.1 h1 with rfl | h1
      · exact hin
      · exact h.inn y (List.mem_of_mem_drop h1)
theorem perm_put {i : Nat} {e : Int × Int} (h : A.Perm U) : (A.take i ++ e :: A.drop i).Perm (U ++ [e]) := by
  refine List.perm_middle.trans ?_
  rw [List.take_append_drop]
  exact ((List.perm_cons e).2 h).trans (List.perm_append_comm (l₁ := [e]))
theorem gd_nodup (h : Gd n F A) : A.Nodup := by
  refine List.Pairwise.imp_of_mem ?_ h.asc
  intro a b ha _ hb e
  subst e
  have := (h.inn a ha).2.1
  unfold Bf at hb
  omega
theorem perm_at {i : Nat} {e : Int × Int} (hi : A[i]? = some e) : A.Perm (e :: (A.take i ++ A.drop (i + 1))) := by
  have h3 := List.take_append_drop i A
  rw [drop_one hi] at h3
  have := List.perm_middle (a := e) (l₁ := A.take i) (l₂ := A.drop (i + 1))
  rwa [h3] at this
theorem perm_cut (h : Gd n F A) (hp : A.Perm U) {i : Nat} {e : Int × Int} (hi : A[i]? = some e) : (A.take i ++ A.drop (i + 1)).Perm (U.filter fun y => y != e) := by
  have hnd := gd_nodup h
  have h1 := (perm_at hi)
  have hn2 := (h1.nodup_iff).1 hnd
  have h2 := ((h1.symm.trans hp).filter fun y => y != e)
  rw [List.filter_cons] at h2
  simp only [bne_self_eq_false, Bool.false_eq_true, if_false] at h2
  have h3 : (A.take i ++ A.drop (i + 1)).filter (fun y => y != e) = A.take i ++ A.drop (i + 1) := by
    refine List.filter_eq_self.2 fun y hy => ?_
    have := (List.nodup_cons.1 hn2).1
    simp only [bne_iff_ne, ne_eq]
    intro e'
    subst e'
    exact this hy
  rwa [h3] at h2
/-- A release. -/
theorem gd_free (h : Gd n F A) {i : Nat} {e : Int × Int} (hi : A[i]? = some e) :
    Gd n (ins F e) (A.take i ++ A.drop (i + 1)) ∧ Free F e ∧ Pr e.1 e.2 := by
  have hm := List.mem_of_getElem? hi
  have hin := h.inn e hm
  have hpr : Pr e.1 e.2 := ⟨hin.1, hin.2.1, by have := h.n1; have := hin.2.2; omega⟩
  have hf : Free F e := (free_mem h.va hin.2.1).2 fun t ht ht' => ((h.fm t).1 ht).2 ⟨e, hm, ht'⟩
  have hperm := perm_at hi
  have hnew : Gd n F A := h
  have hasc := h.asc
  have h3 := List.take_append_drop i A
  rw [drop_one hi] at h3
  rw [← h3, List.pairwise_append, List.pairwise_cons] at hasc
  obtain ⟨a1, ⟨a2, a3⟩, a4⟩ := hasc
  refine ⟨⟨h.n0, h.n1, ins_va h.va (by have := hin.1; omega) hpr hf, fun t => ?_, List.pairwise_append.2 ⟨a1, a3, fun y hy z hz => a4 y hy z (List.mem_cons_of_mem _ hz)⟩, fun x hx => h.inn x (hperm.mem_iff.2 (List.mem_cons_of_mem _ hx))⟩, hf, hpr⟩
  rw [ins_mem h.va hin.2.1 hf, h.fm, mem_perm hperm, mem_cons]
  constructor
  · rintro (⟨h1, h2⟩ | h1)
    · exact ⟨h1, fun h4 => h2 (.inr h4)⟩
    · refine ⟨⟨by have := hin.1; omega, by have := hin.2.2; omega⟩, ?_⟩
      rintro ⟨y, hy, h4⟩
      rcases List.mem_append.1 hy with h5 | h5
      · have := a4 y h5 e (List.mem_cons_self ..)
        unfold Bf at this
        omega
      · have := a2 y h5
        unfold Bf at this
        omega
  · rintro ⟨h1, h2⟩
    by_cases h3 : e.1 ≤ t ∧ t < e.1 + e.2
    · exact .inr h3
    · refine .inl ⟨h1, ?_⟩
      rintro (h4 | h4)
      · exact h3 h4
      · exact h2 h4
/-- The reference's list of extents, put into a set one after the other. -/
def insAll (l : List (Int × Int)) : List (Int × Int) := l.foldl ins []
theorem insAll_step {l : List (Int × Int)} {k : Nat} {x : Int × Int} (h : l[k]? = some x) : insAll (l.take (k + 1)) = ins (insAll (l.take k)) x := by
  rw [take_one h]
  simp [insAll, List.foldl_append]
theorem dj_symm {x y : Int × Int} (h : Dj x y) : Dj y x := h.symm
theorem gd_pair (h : Gd n F A) (hp : A.Perm U) : U.Pairwise Dj ∧ ∀ x ∈ U, In n x :=
  ⟨hp.pairwise (h.asc.imp fun h => .inl h) fun h => dj_symm h, fun x hx => h.inn x (hp.mem_iff.2 hx)⟩
theorem insAll_ok (hU : U.Pairwise Dj) (hI : ∀ x ∈ U, In n x) (hn : n ≤ 1048576) : ∀ {k : Nat}, k ≤ U.length → Va (-1) (insAll (U.take k)) ∧ (∀ t, Mem (insAll (U.take k)) t ↔ Mem (U.take k) t) ∧ ∀ x, U[k]? = some x → Free (insAll (U.take k)) x ∧ Pr x.1 x.2
  | 0, _ => ⟨by simp [insAll, Va], fun t => by simp [insAll], fun x hx => ⟨fun y hy => by simp [insAll] at hy, by
      have := hI x (List.mem_of_getElem? hx)
      exact ⟨this.1, this.2.1, by have := this.2.2; omega⟩⟩⟩
  | k + 1, hk => by
    have hx : U[k]? = some U[k] := List.getElem?_eq_getElem (by omega)
    obtain ⟨i1, i2, i3⟩ := insAll_ok hU hI hn (k := k) (by omega)
    obtain ⟨f1, f2⟩ := i3 _ hx
    have v1 : Va (-1) (insAll (U.take (k + 1))) := by
      rw [insAll_step hx]
      exact ins_va i1 (by have := f2.1; omega) f2 f1
    have m1 : ∀ t, Mem (insAll (U.take (k + 1))) t ↔ Mem (U.take (k + 1)) t := fun t => by
      rw [insAll_step hx, ins_mem i1 f2.2.1 f1, i2, take_one hx, mem_app, mem_cons]
      simp [mem_nil]
    refine ⟨v1, m1, fun y hy => ?_⟩
    have hIy := hI y (List.mem_of_getElem? hy)
    refine ⟨(free_mem v1 hIy.2.1).2 fun t ht ht' => ?_, hIy.1, hIy.2.1, by have := hIy.2.2; omega⟩
    obtain ⟨z, hz, hz'⟩ := (m1 t).1 ht
    obtain ⟨j, hj⟩ := List.mem_iff_getElem?.1 hz
    rw [List.getElem?_take] at hj
    split at hj
    · rename_i hlt
      obtain ⟨g1, rfl⟩ := List.getElem?_eq_some_iff.1 hj
      obtain ⟨g2, rfl⟩ := List.getElem?_eq_some_iff.1 hy
      have := List.pairwise_iff_getElem.1 hU j (k + 1) g1 g2 hlt
      unfold Dj at this
      omega
    · cases hj
theorem insAll_len : ∀ {l : List (Int × Int)} {r : List (Int × Int)}, l = r.reverse → (insAll l).length ≤ l.length
  | _, [], h => by subst h; simp [insAll]
  | _, e :: r, h => by
    subst h
    have ih := insAll_len (l := r.reverse) rfl
    have : insAll (r.reverse ++ [e]) = ins (insAll r.reverse) e := by simp [insAll, List.foldl_append]
    rw [List.reverse_cons, this]
    have hl : ∀ {l : List (Int × Int)} {e : Int × Int}, (ins l e).length ≤ l.length + 1 := by
      intro l
      induction l with
      | nil => intro e; simp [ins]
      | cons x l ih =>
        intro e
        simp only [ins]
        split
        · have := @ih e; simp; omega
        split
        · have := @ih (x.1, x.2 + e.2); simp; omega
        split <;> simp
    have := @hl (insAll r.reverse) e
    simp only [List.length_append, List.length_reverse, List.length_cons, List.length_nil] at *
    omega
/-- The reference's free list is the program's. -/
theorem free_eq (h : Gd n F A) (hp : A.Perm U) : Va (-1) (insAll U) ∧ lst 0 (insAll U) ≤ n ∧ cmp 0 (insAll U) n = F := by
  obtain ⟨hU, hI⟩ := gd_pair h hp
  obtain ⟨v, m, _⟩ := insAll_ok hU hI h.n1 (k := U.length) (Nat.le_refl _)
  rw [List.take_length] at v m
  have hl : lst 0 (insAll U) ≤ n := lst_le v h.n0 fun t ht => by
    obtain ⟨z, hz, hz'⟩ := (m t).1 ht
    have := (hI z hz).2.2
    omega
  refine ⟨v, hl, ext_va (p := -1) (q := -1) (cmp_va v (by omega) hl h.n1 (by omega) (by omega)) h.va fun t => ?_⟩
  rw [cmp_mem v (by omega) hl, h.fm, m, mem_perm hp, and_assoc]
/-- A sorted list of the same extents is the same list. -/
theorem sort_eq (h : Gd n F A) (hp : A.Perm U) {S : List (Int × Int)} (hs : S.Perm U) (ho : S.Pairwise fun x y => x.1 ≤ y.1) : S = A := by
  refine List.Perm.eq_of_pairwise (le := fun x y => x.1 ≤ y.1) ?_ ho (List.Pairwise.imp_of_mem (fun ha _ hb => by have := (h.inn _ ha).2.1; unfold Bf at hb; omega) h.asc) (hs.trans hp.symm)
  intro a b ha hb h1 h2
  have ha' := (hs.trans hp.symm).mem_iff.1 ha
  obtain ⟨j, hj⟩ := List.mem_iff_getElem?.1 ha'
  obtain ⟨k, hk⟩ := List.mem_iff_getElem?.1 hb
  rcases Nat.lt_trichotomy j k with hlt | rfl | hlt
  · have := gd_off h hj hk hlt; omega
  · rw [hj] at hk; exact Option.some.inj hk
  · have := gd_off h hk hj hlt; omega
end
end Go.Proofs.Ytfchccgajcjbbaa
