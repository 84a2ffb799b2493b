/-
  Sets of offsets as lists of extents, in plain mathematics: validity, membership, insertion, removal, complement, and that a valid list is determined by its members. No conditions beyond those that each lemma states.
-/
namespace Go.Proofs.Ytfchccgajcjbbaa

/-- Proper extents in ascending order that do not touch, all behind p. -/
def Va : Int → List (Int × Int) → Prop
  | _, [] => True
  | p, x :: l => p < x.1 ∧ 0 ≤ x.1 ∧ 0 < x.2 ∧ x.1 + x.2 ≤ 1048576 ∧ Va (x.1 + x.2) l
/-- A proper extent. -/
def Pr (x y : Int) : Prop := 0 ≤ x ∧ 0 < y ∧ x + y ≤ 1048576
/-- Where the last extent ends. -/
def lst : Int → List (Int × Int) → Int
  | p, [] => p
  | _, x :: l => lst (x.1 + x.2) l
/-- An offset is in the set. -/
def Mem (l : List (Int × Int)) (t : Int) : Prop := ∃ x, x ∈ l ∧ x.1 ≤ t ∧ t < x.1 + x.2
/-- The plain sum of the lengths. -/
def sm : List (Int × Int) → Int
  | [] => 0
  | x :: l => x.2 + sm l

theorem va_app {b : List (Int × Int)} : ∀ {a : List (Int × Int)} {p : Int}, Va p (a ++ b) ↔ Va p a ∧ Va (lst p a) b
  | [], p => by simp [Va, lst]
  | x :: a, p => by simp [Va, lst, va_app (a := a), and_assoc]
theorem va_mono {p q : Int} (h : q ≤ p) : ∀ {l : List (Int × Int)}, Va p l → Va q l
  | [], _ => trivial
  | _ :: _, ⟨h1, h2⟩ => ⟨by omega, h2⟩
theorem lst_app {b : List (Int × Int)} : ∀ {a : List (Int × Int)} {p : Int}, lst p (a ++ b) = lst (lst p a) b
  | [], p => rfl
  | x :: a, p => by simp [lst, lst_app (a := a)]
theorem take_one {l : List (Int × Int)} {k : Nat} {x : Int × Int} (h : l[k]? = some x) : l.take (k + 1) = l.take k ++ [x] := by
  obtain ⟨hk, rfl⟩ := List.getElem?_eq_some_iff.1 h
  rw [List.take_succ_eq_append_getElem hk]
theorem drop_one {l : List (Int × Int)} {k : Nat} {x : Int × Int} (h : l[k]? = some x) : l.drop k = x :: l.drop (k + 1) := by
  obtain ⟨hk, rfl⟩ := List.getElem?_eq_some_iff.1 h
  rw [List.drop_eq_getElem_cons hk]
theorem lst_take {l : List (Int × Int)} {k : Nat} {x : Int × Int} (h : l[k]? = some x) (p : Int) : lst p (l.take (k + 1)) = x.1 + x.2 := by
  rw [take_one h, lst_app]; rfl
theorem va_take {l : List (Int × Int)} {p : Int} (h : Va p l) (k : Nat) : Va p (l.take k) := by
  have := List.take_append_drop k l
  rw [← this] at h
  exact (va_app.1 h).1
theorem va_drop {l : List (Int × Int)} {p : Int} (h : Va p l) (k : Nat) : Va (lst p (l.take k)) (l.drop k) := by
  have := List.take_append_drop k l
  rw [← this] at h
  exact (va_app.1 h).2
theorem va_pr {p : Int} : ∀ {l : List (Int × Int)}, Va p l → ∀ x ∈ l, p < x.1 ∧ Pr x.1 x.2
  | x :: l, ⟨h1, h2, h3, h4, h5⟩, y, hy => by
    rcases List.mem_cons.1 hy with rfl | hy
    · exact ⟨h1, h2, h3, h4⟩
    · obtain ⟨g1, g2⟩ := va_pr h5 y hy
      exact ⟨by omega, g2⟩
theorem va_at {l : List (Int × Int)} {p : Int} (h : Va p l) {k : Nat} {x : Int × Int} (hx : l[k]? = some x) : Pr x.1 x.2 ∧ lst p (l.take k) < x.1 := by
  have := va_drop h k
  rw [drop_one hx] at this
  obtain ⟨h1, h2, h3, h4, _⟩ := this
  exact ⟨⟨h2, h3, h4⟩, h1⟩
/-- One step of the test. -/
theorem va_step {l : List (Int × Int)} {k : Nat} {x y : Int} (h : Va (-1) (l.take k)) (hx : l[k]? = some (x, y)) (hp : Pr x y) (hl : k = 0 ∨ lst (-1) (l.take k) < x) : Va (-1) (l.take (k + 1)) := by
  rw [take_one hx]
  refine va_app.2 ⟨h, ?_, hp.1, hp.2.1, hp.2.2, trivial⟩
  rcases hl with rfl | hl
  · have := hp.1
    simp [lst]
    omega
  · exact hl
theorem va_not1 {l : List (Int × Int)} {k : Nat} {x y : Int} (hx : l[k]? = some (x, y)) (hp : ¬ Pr x y) : ¬ Va (-1) l := fun h => hp (va_at h hx).1
theorem va_not2 {l : List (Int × Int)} {k : Nat} {x y : Int} (hx : l[k]? = some (x, y)) (hp : x ≤ lst (-1) (l.take k)) : ¬ Va (-1) l := fun h => by
  have := (va_at h hx).2
  simp only at this
  omega
theorem va_end {l : List (Int × Int)} {p : Int} (h : Va p l) {j k : Nat} {x y : Int × Int} (hj : l[j]? = some x) (hk : l[k]? = some y) (hjk : j < k) : x.1 + x.2 < y.1 := by
  have h1 := va_drop h (j + 1)
  rw [lst_take hj] at h1
  refine (va_pr h1 y ?_).1
  rw [show k = (j + 1) + (k - (j + 1)) by omega, ← List.getElem?_drop] at hk
  exact List.mem_of_getElem? hk
theorem va_lst {p : Int} : ∀ {l : List (Int × Int)}, Va p l → p ≤ lst p l
  | [], _ => Int.le_refl _
  | x :: l, ⟨h1, _, h3, _, h5⟩ => by
    have := va_lst h5
    simp only [lst]
    omega
theorem va_lst_le {p : Int} : ∀ {l : List (Int × Int)}, Va p l → ∀ x ∈ l, x.1 + x.2 ≤ lst p l
  | x :: l, ⟨h1, _, h3, _, h5⟩, y, hy => by
    rcases List.mem_cons.1 hy with rfl | hy
    · exact va_lst h5
    · exact va_lst_le h5 y hy
theorem va_lst_max {p : Int} : ∀ {l : List (Int × Int)}, Va p l → l = [] ∨ lst p l ≤ 1048576
  | [], _ => .inl rfl
  | x :: l, ⟨h1, _, h3, h4, h5⟩ => by
    right
    rcases va_lst_max h5 with rfl | h
    · exact h4
    · exact h
theorem va_sm {p : Int} : ∀ {l : List (Int × Int)}, Va p l → p ≤ 1048576 → 0 ≤ sm l ∧ sm l ≤ 1048576 - p
  | [], _, hp => by simp [sm]; omega
  | x :: l, ⟨h1, _, h3, h4, h5⟩, hp => by
    have := va_sm h5 h4
    simp only [sm]
    omega
theorem lst_any {p q : Int} : ∀ {l : List (Int × Int)}, l ≠ [] → lst p l = lst q l
  | _ :: _, _ => rfl

theorem mem_nil {t : Int} : Mem [] t ↔ False := by simp [Mem]
theorem mem_cons {x : Int × Int} {l : List (Int × Int)} {t : Int} : Mem (x :: l) t ↔ (x.1 ≤ t ∧ t < x.1 + x.2) ∨ Mem l t := by simp [Mem]
theorem mem_app {a b : List (Int × Int)} {t : Int} : Mem (a ++ b) t ↔ Mem a t ∨ Mem b t := by
  induction a with
  | nil => simp [mem_nil]
  | cons x a ih => simp [mem_cons, ih, or_assoc]
theorem mem_lo {p : Int} {l : List (Int × Int)} (h : Va p l) {t : Int} (ht : Mem l t) : p < t ∧ 0 ≤ t ∧ t < 1048576 := by
  obtain ⟨x, hx, h1, h2⟩ := ht
  obtain ⟨h3, h4, h5, h6⟩ := va_pr h x hx
  omega

/-- A valid list is determined by its members. -/
theorem ext_va : ∀ {l m : List (Int × Int)} {p q : Int}, Va p l → Va q m → (∀ t, Mem l t ↔ Mem m t) → l = m
  | [], [], _, _, _, _, _ => rfl
  | [], y :: m, _, _, _, ⟨_, _, g3, _, _⟩, h => by
    have := (h y.1).2 (mem_cons.2 (.inl (by omega)))
    exact absurd this (by simp [mem_nil])
  | x :: l, [], _, _, ⟨_, _, g3, _, _⟩, _, h => by
    have := (h x.1).1 (mem_cons.2 (.inl (by omega)))
    exact absurd this (by simp [mem_nil])
  | x :: l, y :: m, p, q, ⟨a1, a2, a3, a4, a5⟩, ⟨b1, b2, b3, b4, b5⟩, h => by
    have e1 : x.1 = y.1 := by
      rcases mem_cons.1 ((h x.1).1 (mem_cons.2 (.inl (by omega)))) with h1 | h1
      · rcases mem_cons.1 ((h y.1).2 (mem_cons.2 (.inl (by omega)))) with h2 | h2
        · omega
        · have := (mem_lo a5 h2).1; omega
      · have k1 := (mem_lo b5 h1).1
        rcases mem_cons.1 ((h y.1).2 (mem_cons.2 (.inl (by omega)))) with h2 | h2
        · omega
        · have := (mem_lo a5 h2).1; omega
    have e2 : x.2 = y.2 := by
      rcases Int.lt_trichotomy x.2 y.2 with hlt | he | hlt
      · exfalso
        rcases mem_cons.1 ((h (x.1 + x.2)).2 (mem_cons.2 (.inl (by omega)))) with h1 | h1
        · omega
        · have := (mem_lo a5 h1).1; omega
      · exact he
      · exfalso
        rcases mem_cons.1 ((h (y.1 + y.2)).1 (mem_cons.2 (.inl (by omega)))) with h1 | h1
        · omega
        · have := (mem_lo b5 h1).1; omega
    have e : x = y := Prod.ext e1 e2
    subst e
    rw [ext_va a5 b5 fun t => ?_]
    constructor
    · intro ht
      have := (mem_lo a5 ht).1
      rcases mem_cons.1 ((h t).1 (mem_cons.2 (.inr ht))) with h1 | h1
      · omega
      · exact h1
    · intro ht
      have := (mem_lo b5 ht).1
      rcases mem_cons.1 ((h t).2 (mem_cons.2 (.inr ht))) with h1 | h1
      · omega
      · exact h1

/-- No extent of l meets the extent e. -/
def Free (l : List (Int × Int)) (e : Int × Int) : Prop := ∀ x, x ∈ l → x.1 + x.2 ≤ e.1 ∨ e.1 + e.2 ≤ x.1
theorem free_mem {l : List (Int × Int)} {p : Int} (hv : Va p l) {e : Int × Int} (he : 0 < e.2) : Free l e ↔ ∀ t, Mem l t → ¬ (e.1 ≤ t ∧ t < e.1 + e.2) := by
  constructor
  · rintro h t ⟨x, hx, h1, h2⟩ ⟨h3, h4⟩
    have := h x hx
    omega
  · intro h x hx
    have hp := (va_pr hv x hx).2
    obtain ⟨h1, h2, h3⟩ := hp
    rcases Int.lt_or_le e.1 (x.1 + x.2) with h4 | h4
    · rcases Int.lt_or_le x.1 (e.1 + e.2) with h5 | h5
      · rcases Int.lt_or_le x.1 e.1 with h6 | h6
        · exact absurd ⟨Int.le_refl _, by omega⟩ (h e.1 ⟨x, hx, by omega, by omega⟩)
        · exact absurd ⟨by omega, by omega⟩ (h x.1 ⟨x, hx, by omega, by omega⟩)
      · exact .inr h5
    · exact .inl h4

/-- Insertion, as the chapter says it. -/
def ins : List (Int × Int) → Int × Int → List (Int × Int)
  | [], e => [e]
  | x :: l, e => if x.1 + x.2 < e.1 then x :: ins l e else if x.1 + x.2 = e.1 then ins l (x.1, x.2 + e.2) else if e.1 + e.2 = x.1 then (e.1, e.2 + x.2) :: l else e :: x :: l
theorem ins_va : ∀ {l : List (Int × Int)} {p : Int} {e : Int × Int}, Va p l → p < e.1 → Pr e.1 e.2 → Free l e → Va p (ins l e)
  | [], p, e, _, h1, h2, _ => ⟨h1, h2.1, h2.2.1, h2.2.2, trivial⟩
  | x :: l, p, e, ⟨a1, a2, a3, a4, a5⟩, h1, ⟨b1, b2, b3⟩, hf => by
    have hx := hf x (List.mem_cons_self ..)
    have hr : Free l e := fun y hy => hf y (List.mem_cons_of_mem _ hy)
    simp only [ins]
    split
    · exact ⟨a1, a2, a3, a4, ins_va a5 (by omega) ⟨b1, b2, b3⟩ hr⟩
    split
    · refine ins_va (va_mono (by omega) a5) a1 ⟨by omega, by simp only; omega, by simp only; omega⟩ fun y hy => ?_
      have := hr y hy
      have k := (va_pr a5 y hy).1
      have k2 := (va_pr a5 y hy).2.2.1
      simp only
      omega
    split
    · refine ⟨h1, b1, by simp only; omega, by simp only; omega, ?_⟩
      simp only
      rw [show e.1 + (e.2 + x.2) = x.1 + x.2 by omega]
      exact a5
    · exact ⟨h1, b1, b2, b3, by omega, a2, a3, a4, a5⟩
theorem ins_mem : ∀ {l : List (Int × Int)} {p : Int} {e : Int × Int}, Va p l → 0 < e.2 → Free l e → ∀ t, Mem (ins l e) t ↔ Mem l t ∨ (e.1 ≤ t ∧ t < e.1 + e.2)
  | [], p, e, _, _, _, t => by simp [ins, mem_cons, mem_nil]
  | x :: l, p, e, ⟨a1, a2, a3, a4, a5⟩, b2, hf, t => by
    have hx := hf x (List.mem_cons_self ..)
    have hr : Free l e := fun y hy => hf y (List.mem_cons_of_mem _ hy)
    simp only [ins]
    split
    · rw [mem_cons, mem_cons, ins_mem a5 b2 hr t, or_assoc]
    split
    · rw [mem_cons, ins_mem (e := (x.1, x.2 + e.2)) a5 (by simp only; omega) (fun y hy => ?_) t]
      · simp only
        constructor
        · rintro (h | h)
          · exact .inl (.inr h)
          · rcases Int.lt_or_le t e.1 with h' | h'
            · exact .inl (.inl (by omega))
            · exact .inr (by omega)
        · rintro ((h | h) | h)
          · exact .inr (by omega)
          · exact .inl h
          · exact .inr (by omega)
      · have := hr y hy
        have k := (va_pr a5 y hy).1
        have k2 := (va_pr a5 y hy).2.2.1
        simp only
        omega
    split
    · rw [mem_cons, mem_cons]
      simp only
      constructor
      · rintro (h | h)
        · rcases Int.lt_or_le t x.1 with h' | h'
          · exact .inr (by omega)
          · exact .inl (.inl (by omega))
        · exact .inl (.inr h)
      · rintro ((h | h) | h)
        · exact .inl (by omega)
        · exact .inr h
        · exact .inl (by omega)
    · rw [mem_cons, or_comm]
theorem ins_sm : ∀ {l : List (Int × Int)} {e : Int × Int}, sm (ins l e) = sm l + e.2
  | [], e => by simp [ins, sm]
  | x :: l, e => by
    simp only [ins]
    split
    · simp only [sm, ins_sm (l := l)]; omega
    split
    · rw [ins_sm]; simp only [sm]; omega
    split
    · simp only [sm]; omega
    · simp only [sm]; omega
/-- An extent of l contains all of e. -/
def Has (l : List (Int × Int)) (e : Int × Int) : Prop := ∃ x, x ∈ l ∧ x.1 ≤ e.1 ∧ e.1 + e.2 ≤ x.1 + x.2
theorem ins_has : ∀ {l : List (Int × Int)} {p : Int} {e : Int × Int}, Va p l → 0 < e.2 → Has (ins l e) e
  | [], p, e, _, _ => ⟨e, List.mem_cons_self .., by omega, by omega⟩
  | x :: l, p, e, ⟨a1, a2, a3, a4, a5⟩, h => by
    simp only [ins]
    split
    · obtain ⟨y, hy, h1⟩ := ins_has (e := e) a5 h
      exact ⟨y, List.mem_cons_of_mem _ hy, h1⟩
    split
    · obtain ⟨y, hy, h1, h2⟩ := ins_has (e := (x.1, x.2 + e.2)) a5 (by simp only; omega)
      simp only at h1 h2
      exact ⟨y, hy, by omega, by omega⟩
    split
    · exact ⟨_, List.mem_cons_self .., by simp only; omega, by simp only; omega⟩
    · exact ⟨_, List.mem_cons_self .., by omega, by omega⟩

/-- The first extent that ends behind off is at i. -/
def Idx (l : List (Int × Int)) (off : Int) (i : Nat) : Prop := i ≤ l.length ∧ (∀ j x, j < i → l[j]? = some x → x.1 + x.2 ≤ off) ∧ (∀ j x, i ≤ j → l[j]? = some x → off < x.1 + x.2)
theorem idx_lo {l : List (Int × Int)} {p off : Int} (h : Va p l) {k : Nat} {x : Int × Int} (hx : l[k]? = some x) (hle : x.1 + x.2 ≤ off) : ∀ j y, j < k + 1 → l[j]? = some y → y.1 + y.2 ≤ off := by
  intro j y hj hy
  by_cases he : j = k
  · subst he
    rw [hx] at hy
    obtain rfl := Option.some.inj hy
    exact hle
  · have := va_end h hy hx (by omega)
    have := (va_at h hx).1.2.1
    omega
theorem idx_hi {l : List (Int × Int)} {p off : Int} (h : Va p l) {k : Nat} {x : Int × Int} (hx : l[k]? = some x) (hle : off < x.1 + x.2) : ∀ j y, k ≤ j → l[j]? = some y → off < y.1 + y.2 := by
  intro j y hj hy
  by_cases he : j = k
  · subst he
    rw [hx] at hy
    obtain rfl := Option.some.inj hy
    exact hle
  · have := va_end h hx hy (by omega)
    have := (va_at h hy).1.2.1
    omega
theorem free_at {l : List (Int × Int)} {p : Int} (h : Va p l) {e : Int × Int} {i : Nat} (hi : Idx l e.1 i) (hx : ∀ x, l[i]? = some x → e.1 + e.2 ≤ x.1) : Free l e := by
  intro x hm
  obtain ⟨j, hj⟩ := List.mem_iff_getElem?.1 hm
  by_cases hlt : j < i
  · exact .inl (hi.2.1 j x hlt hj)
  · right
    by_cases he : j = i
    · subst he; exact hx x hj
    · have hil : i < l.length := by
        have := (List.getElem?_eq_some_iff.1 hj).1
        omega
      have h1 : l[i]? = some l[i] := List.getElem?_eq_getElem hil
      have h2 := va_end h h1 hj (by omega)
      have h3 := hx _ h1
      have := (va_at h h1).1.2.1
      omega
theorem free_not {l : List (Int × Int)} {e : Int × Int} {i : Nat} (hi : Idx l e.1 i) {x : Int × Int} (hx : l[i]? = some x) (hlt : x.1 < e.1 + e.2) : ¬ Free l e := by
  intro h
  have h1 := hi.2.2 i x (Nat.le_refl _) hx
  have := h x (List.mem_of_getElem? hx)
  omega

/-- The parts of the program's insertion at i: what stays before, the extent itself, what stays behind. -/
def lft (l : List (Int × Int)) (e : Int × Int) (i : Nat) : Bool := match i with
  | 0 => false
  | j + 1 => match l[j]? with
    | some x => decide (x.1 + x.2 = e.1)
    | none => false
def bef (l : List (Int × Int)) (e : Int × Int) (i : Nat) : List (Int × Int) := if lft l e i then l.take (i - 1) else l.take i
def md1 (l : List (Int × Int)) (e : Int × Int) (i : Nat) : Int × Int := if lft l e i then match l[i - 1]? with
    | some x => (x.1, e.1 + e.2 - x.1)
    | none => e
  else e
def rgt (l : List (Int × Int)) (e : Int × Int) (i : Nat) : Bool := match l[i]? with
    | some x => decide (x.1 = e.1 + e.2)
    | none => false
def md2 (l : List (Int × Int)) (e : Int × Int) (i : Nat) : Int × Int := if rgt l e i then match l[i]? with
    | some x => (e.1, x.1 + x.2 - e.1)
    | none => e
  else e
def aft (l : List (Int × Int)) (e : Int × Int) (i : Nat) : List (Int × Int) := if rgt l e i then l.drop (i + 1) else l.drop i
def pin (l : List (Int × Int)) (e : Int × Int) (i : Nat) : List (Int × Int) := bef l e i ++ (md2 l (md1 l e i) i :: aft l (md1 l e i) i)

theorem pin_zero {l : List (Int × Int)} {p : Int} (h : Va p l) {e : Int × Int} (hf : ∀ x, l[0]? = some x → e.1 < x.1 + x.2 ∧ e.1 + e.2 ≤ x.1) : md2 l e 0 :: aft l e 0 = ins l e := by
  cases l with
  | nil => rfl
  | cons x l =>
    obtain ⟨h1, h2⟩ := hf x rfl
    unfold md2 aft
    simp only [ins]
    by_cases he : x.1 = e.1 + e.2
    · have hb : rgt (x :: l) e 0 = true := by simp [rgt, he]
      rw [if_pos hb, if_pos hb, if_neg (by omega), if_neg (by omega), if_pos he.symm]
      simp only [List.getElem?_cons_zero, List.drop_succ_cons, List.drop_zero]
      rw [show x.1 + x.2 - e.1 = e.2 + x.2 by omega]
    · have hb : ¬ rgt (x :: l) e 0 = true := by simp [rgt, he]
      rw [if_neg hb, if_neg hb, if_neg (by omega), if_neg (by omega), if_neg (by omega)]
      rfl
theorem pin_eq : ∀ {l : List (Int × Int)} {p : Int} {e : Int × Int} {i : Nat}, Va p l → 0 < e.2 → Idx l e.1 i → Free l e → pin l e i = ins l e
  | l, p, e, 0, hv, h2, hi, hf => by
    refine pin_zero hv (e := e) fun x hx => ?_
    have h3 := hi.2.2 0 x (Nat.le_refl _) hx
    have := hf x (List.mem_of_getElem? hx)
    omega
  | [], p, e, i + 1, hv, h2, hi, hf => by
    have := hi.1
    simp at this
  | x :: l, p, e, i + 1, ⟨a1, a2, a3, a4, a5⟩, h2, hi, hf => by
    have hr : Free l e := fun y hy => hf y (List.mem_cons_of_mem _ hy)
    have hx := hi.2.1 0 x (by omega) rfl
    have hj : Idx l e.1 i := ⟨by have := hi.1; simp at this; omega, fun j y hj hy => hi.2.1 (j + 1) y (by omega) (by simpa using hy), fun j y hj hy => hi.2.2 (j + 1) y (by omega) (by simpa using hy)⟩
    rcases Int.lt_or_eq_of_le hx with hlt | heq
    · have IH := pin_eq a5 h2 hj hr
      simp only [ins]
      rw [if_pos hlt, ← IH]
      have k1 : lft (x :: l) e (i + 1) = lft l e i := by
        cases i with
        | zero => simp [lft]; omega
        | succ j => simp [lft]
      have k2 : md1 (x :: l) e (i + 1) = md1 l e i := by
        unfold md1
        rw [k1]
        cases i with
        | zero => simp [lft]
        | succ j => simp
      have k3 : bef (x :: l) e (i + 1) = x :: bef l e i := by
        unfold bef
        rw [k1]
        cases i with
        | zero => simp [lft]
        | succ j => split <;> simp
      unfold pin
      rw [k2, k3]
      generalize md1 l e i = f
      rfl
    · have hi0 : i = 0 := by
        cases i with
        | zero => rfl
        | succ j =>
          exfalso
          have hjl : j < l.length := by have := hj.1; omega
          have h1 : l[j]? = some l[j] := List.getElem?_eq_getElem hjl
          have h3 := hj.2.1 j _ (by omega) h1
          have h4 := va_pr a5 _ (List.mem_of_getElem? h1)
          have := h4.1
          have := h4.2.2.1
          omega
      subst hi0
      simp only [ins]
      rw [if_neg (by omega), if_pos heq]
      have k1 : lft (x :: l) e (0 + 1) = true := by simp [lft, heq]
      have k2 : md1 (x :: l) e (0 + 1) = (x.1, x.2 + e.2) := by
        unfold md1
        rw [k1]
        simp
        omega
      have k3 : bef (x :: l) e (0 + 1) = [] := by
        unfold bef
        rw [k1]
        simp
      unfold pin
      rw [k2, k3]
      have := pin_zero (e := (x.1, x.2 + e.2)) a5 fun y hy => by
        have h3 := hj.2.2 0 y (Nat.le_refl _) hy
        have h4 := hr y (List.mem_of_getElem? hy)
        have h5 := (va_pr a5 y (List.mem_of_getElem? hy)).1
        simp only
        omega
      rw [← this]
      rfl

/-- The reference's insertion: what lies left, the extent, what lies right; one step for each extent of the set. -/
def rst (s : List (Int × Int) × (Int × Int) × List (Int × Int)) (x : Int × Int) : List (Int × Int) × (Int × Int) × List (Int × Int) :=
  if x.1 + x.2 = s.2.1.1 then (s.1, (x.1, x.2 + s.2.1.2), s.2.2)
  else if s.2.1.1 + s.2.1.2 = x.1 then (s.1, (s.2.1.1, s.2.1.2 + x.2), s.2.2)
  else if x.1 < s.2.1.1 then (s.1 ++ [x], s.2.1, s.2.2) else (s.1, s.2.1, s.2.2 ++ [x])
def rin (l : List (Int × Int)) (e : Int × Int) : List (Int × Int) × (Int × Int) × List (Int × Int) := l.foldl rst ([], e, [])
theorem rin_right : ∀ {l : List (Int × Int)} {p : Int} {e : Int × Int} {L R : List (Int × Int)}, Va p l → e.1 + e.2 ≤ p → 0 < e.2 → l.foldl rst (L, e, R) = (L, e, R ++ l)
  | [], p, e, L, R, _, _, _ => by simp
  | x :: l, p, e, L, R, ⟨a1, a2, a3, a4, a5⟩, h, h2 => by
    simp only [List.foldl_cons]
    have : rst (L, e, R) x = (L, e, R ++ [x]) := by
      unfold rst
      simp only
      rw [if_neg (by omega), if_neg (by omega), if_neg (by omega)]
    rw [this, rin_right a5 (by omega) h2]
    simp
theorem rin_any : ∀ {l : List (Int × Int)} {p : Int} {e : Int × Int} {L : List (Int × Int)}, Va p l → 0 < e.2 → Free l e → (l.foldl rst (L, e, [])).1 ++ [(l.foldl rst (L, e, [])).2.1] ++ (l.foldl rst (L, e, [])).2.2 = L ++ ins l e
  | [], p, e, L, _, _, _ => by simp [ins]
  | x :: l, p, e, L, ⟨a1, a2, a3, a4, a5⟩, h2, hf => by
    have hx := hf x (List.mem_cons_self ..)
    have hr : Free l e := fun y hy => hf y (List.mem_cons_of_mem _ hy)
    simp only [List.foldl_cons, ins]
    by_cases c1 : x.1 + x.2 < e.1
    · rw [if_pos c1]
      have : rst (L, e, []) x = (L ++ [x], e, []) := by
        unfold rst
        simp only
        rw [if_neg (by omega), if_neg (by omega), if_pos (by omega)]
      rw [this, rin_any a5 h2 hr]
      simp
    rw [if_neg c1]
    by_cases c2 : x.1 + x.2 = e.1
    · rw [if_pos c2]
      have : rst (L, e, []) x = (L, (x.1, x.2 + e.2), []) := by
        unfold rst
        simp only
        rw [if_pos (by omega)]
      rw [this, rin_any a5 (by simp only; omega) fun y hy => ?_]
      have := hr y hy
      have k := (va_pr a5 y hy).1
      have k2 := (va_pr a5 y hy).2.2.1
      simp only
      omega
    rw [if_neg c2]
    by_cases c3 : e.1 + e.2 = x.1
    · rw [if_pos c3]
      have : rst (L, e, []) x = (L, (e.1, e.2 + x.2), []) := by
        unfold rst
        simp only
        rw [if_neg (by omega), if_pos (by omega)]
      rw [this, rin_right a5 (by simp only; omega) (by simp only; omega)]
      simp
    · rw [if_neg c3]
      have : rst (L, e, []) x = (L, e, [x]) := by
        unfold rst
        simp only
        rw [if_neg (by omega), if_neg (by omega), if_neg (by omega)]
        rfl
      rw [this, rin_right a5 (by omega) h2]
      simp
theorem rin_eq {l : List (Int × Int)} {p : Int} {e : Int × Int} (hv : Va p l) (h2 : 0 < e.2) (hf : Free l e) : (rin l e).1 ++ [(rin l e).2.1] ++ (rin l e).2.2 = ins l e := by
  have := rin_any (L := []) hv h2 hf
  simpa [rin] using this
theorem rin_take {l : List (Int × Int)} {e : Int × Int} {k : Nat} {x : Int × Int} (hx : l[k]? = some x) : rin (l.take (k + 1)) e = rst (rin (l.take k) e) x := by
  rw [take_one hx]
  simp [rin]
/-- The extent of the reference stays proper, and the rows stay short. -/
theorem rst_pr {s : List (Int × Int) × (Int × Int) × List (Int × Int)} {x : Int × Int} (h : Pr s.2.1.1 s.2.1.2) (hx : Pr x.1 x.2) : Pr (rst s x).2.1.1 (rst s x).2.1.2 := by
  obtain ⟨h1, h2, h3⟩ := h
  obtain ⟨g1, g2, g3⟩ := hx
  unfold rst
  split
  · exact ⟨by simp only; omega, by simp only; omega, by simp only; omega⟩
  split
  · exact ⟨by simp only; omega, by simp only; omega, by simp only; omega⟩
  split
  · exact ⟨h1, h2, h3⟩
  · exact ⟨h1, h2, h3⟩
theorem rin_pr {l : List (Int × Int)} {e : Int × Int} (h : Pr e.1 e.2) : ∀ {k : Nat}, (∀ x, x ∈ l → Pr x.1 x.2) → Pr (rin (l.take k) e).2.1.1 (rin (l.take k) e).2.1.2
  | 0, _ => by simpa [rin] using h
  | k + 1, hl => by
    by_cases hk : k < l.length
    · have hx : l[k]? = some l[k] := List.getElem?_eq_getElem hk
      rw [rin_take hx]
      exact rst_pr (rin_pr h hl) (hl _ (List.mem_of_getElem? hx))
    · rw [List.take_of_length_le (by omega)]
      have := rin_pr (k := k) h hl
      rw [List.take_of_length_le (by omega)] at this
      exact this
theorem rst_len {s : List (Int × Int) × (Int × Int) × List (Int × Int)} {x : Int × Int} : (rst s x).1.length + (rst s x).2.2.length ≤ s.1.length + s.2.2.length + 1 := by
  unfold rst
  split
  · simp only; omega
  split
  · simp only; omega
  split
  · simp only [List.length_append, List.length_singleton]; omega
  · simp only [List.length_append, List.length_singleton]; omega
theorem rin_len {l : List (Int × Int)} {e : Int × Int} : ∀ {k : Nat}, (rin (l.take k) e).1.length + (rin (l.take k) e).2.2.length ≤ k
  | 0 => by simp [rin]
  | k + 1 => by
    by_cases hk : k < l.length
    · have hx : l[k]? = some l[k] := List.getElem?_eq_getElem hk
      rw [rin_take hx]
      have := rst_len (s := rin (l.take k) e) (x := l[k])
      have := rin_len (l := l) (e := e) (k := k)
      omega
    · have := rin_len (l := l) (e := e) (k := k)
      rw [List.take_of_length_le (by omega)] at this ⊢
      omega

/-- What stays of an extent without the offsets of e. -/
def btw (a b : Int) : List (Int × Int) := if a = b then [] else [(a, b - a)]
def pcs (x e : Int × Int) : List (Int × Int) := btw x.1 e.1 ++ btw (e.1 + e.2) (x.1 + x.2)
def inn (x e : Int × Int) : Bool := decide (x.1 ≤ e.1) && decide (e.1 + e.2 ≤ x.1 + x.2)
/-- Removal, as the chapter says it. -/
def rem : List (Int × Int) → Int × Int → List (Int × Int)
  | [], _ => []
  | x :: l, e => (if inn x e then pcs x e else [x]) ++ rem l e
theorem rem_app {e : Int × Int} {b : List (Int × Int)} : ∀ {a : List (Int × Int)}, rem (a ++ b) e = rem a e ++ rem b e
  | [] => rfl
  | x :: a => by simp [rem, rem_app (a := a)]
theorem rem_take {l : List (Int × Int)} {e : Int × Int} {k : Nat} {x : Int × Int} (hx : l[k]? = some x) : rem (l.take (k + 1)) e = rem (l.take k) e ++ (if inn x e then pcs x e else [x]) := by
  rw [take_one hx, rem_app]
  simp [rem]
theorem pcs_len {x e : Int × Int} : (pcs x e).length ≤ 2 := by
  unfold pcs btw
  split <;> split <;> simp
theorem rem_len {l : List (Int × Int)} {e : Int × Int} : (rem l e).length ≤ 2 * l.length := by
  induction l with
  | nil => simp [rem]
  | cons x l ih =>
    simp only [rem, List.length_append, List.length_cons]
    have := pcs_len (x := x) (e := e)
    split
    · omega
    · simp; omega
theorem rem_same {e : Int × Int} : ∀ {l : List (Int × Int)}, (∀ x, x ∈ l → inn x e = false) → rem l e = l
  | [], _ => rfl
  | x :: l, h => by
    simp only [rem]
    rw [h x (List.mem_cons_self ..), rem_same fun y hy => h y (List.mem_cons_of_mem _ hy)]
    simp
theorem rem_at {l : List (Int × Int)} {p : Int} (hv : Va p l) {e x : Int × Int} (he : 0 < e.2) {i : Nat} (hi : Idx l e.1 i) (hx : l[i]? = some x) (h1 : x.1 ≤ e.1) (h2 : e.1 + e.2 ≤ x.1 + x.2) : l.take i ++ (pcs x e ++ l.drop (i + 1)) = rem l e := by
  have h3 := List.take_append_drop i l
  rw [drop_one hx] at h3
  have h4 : rem l e = rem (l.take i ++ (x :: l.drop (i + 1))) e := by rw [h3]
  rw [h4, rem_app, rem_same (l := l.take i)]
  · simp only [rem]
    rw [rem_same (l := l.drop (i + 1))]
    · have : inn x e = true := by simp [inn, h1, h2]
      rw [this]
      simp
    · intro y hy
      obtain ⟨j, hj⟩ := List.mem_iff_getElem?.1 hy
      rw [List.getElem?_drop] at hj
      have := va_end hv hx hj (by omega)
      simp [inn]
      omega
  · intro y hy
    obtain ⟨j, hj⟩ := List.mem_iff_getElem?.1 hy
    rw [List.getElem?_take] at hj
    split at hj
    · rename_i hlt
      have := hi.2.1 j y hlt hj
      simp [inn]
      omega
    · cases hj
theorem has_not {l : List (Int × Int)} {p : Int} (hv : Va p l) {e : Int × Int} (he : 0 < e.2) {i : Nat} (hi : Idx l e.1 i) (hx : ∀ x, l[i]? = some x → e.1 < x.1 ∨ x.1 + x.2 < e.1 + e.2) : ¬ Has l e := by
  rintro ⟨x, hm, h1, h2⟩
  obtain ⟨j, hj⟩ := List.mem_iff_getElem?.1 hm
  rcases Nat.lt_trichotomy j i with hlt | rfl | hlt
  · have := hi.2.1 j x hlt hj
    omega
  · have := hx x hj
    omega
  · have hil : i < l.length := by
      have := (List.getElem?_eq_some_iff.1 hj).1
      omega
    have g1 : l[i]? = some l[i] := List.getElem?_eq_getElem hil
    have g2 := hi.2.2 i _ (Nat.le_refl _) g1
    have g3 := va_end hv g1 hj hlt
    omega
theorem has_any {l : List (Int × Int)} {e : Int × Int} : Has l e ↔ l.any (fun x => inn x e) = true := by
  simp [Has, inn]
theorem btw_mem {a b t : Int} (_h : a ≤ b) : Mem (btw a b) t ↔ a ≤ t ∧ t < b := by
  unfold btw
  split
  · simp [mem_nil]; omega
  · simp [mem_cons, mem_nil]; omega
theorem btw_va {p a b : Int} (h : a ≤ b) (h0 : 0 ≤ a) (h1 : b ≤ 1048576) (hp : p < a) : Va p (btw a b) := by
  unfold btw
  split
  · trivial
  · exact ⟨hp, h0, by simp only; omega, by simp only; omega, trivial⟩
theorem btw_sm {a b : Int} : sm (btw a b) = b - a := by
  unfold btw
  split
  · simp [sm]; omega
  · simp [sm]
theorem btw_lst {p a b : Int} (hp : p ≤ b) : lst p (btw a b) ≤ b := by
  unfold btw
  split
  · exact hp
  · simp [lst]; omega
theorem rem_mem {e : Int × Int} (he : 0 < e.2) : ∀ {l : List (Int × Int)} {p : Int}, Va p l → Has l e → ∀ t, Mem (rem l e) t ↔ Mem l t ∧ ¬ (e.1 ≤ t ∧ t < e.1 + e.2)
  | [], p, _, h, t => by
    obtain ⟨_, h, _⟩ := h
    cases h
  | x :: l, p, ⟨a1, a2, a3, a4, a5⟩, h, t => by
    simp only [rem, mem_app, mem_cons]
    by_cases hi : inn x e = true
    · have hi' := hi
      simp [inn] at hi'
      rw [if_pos hi, rem_same]
      · unfold pcs
        rw [mem_app, btw_mem hi'.1, btw_mem hi'.2]
        constructor
        · rintro ((h1 | h1) | h1)
          · exact ⟨.inl (by omega), by omega⟩
          · exact ⟨.inl (by omega), by omega⟩
          · have := (mem_lo a5 h1).1
            exact ⟨.inr h1, by omega⟩
        · rintro ⟨h1 | h1, h2⟩
          · rcases Int.lt_or_le t e.1 with h3 | h3
            · exact .inl (.inl (by omega))
            · exact .inl (.inr (by omega))
          · exact .inr h1
      · intro y hy
        have := (va_pr a5 y hy).1
        simp [inn]
        omega
    · have hh : Has l e := by
        obtain ⟨y, hy, h1, h2⟩ := h
        rcases List.mem_cons.1 hy with rfl | hy
        · exact absurd (by simp [inn, h1, h2]) hi
        · exact ⟨y, hy, h1, h2⟩
      rw [if_neg hi, mem_cons, rem_mem he a5 hh t]
      have : ∃ y, y ∈ l ∧ y.1 ≤ e.1 := by
        obtain ⟨y, hy, h1, _⟩ := hh
        exact ⟨y, hy, h1⟩
      obtain ⟨y, hy, hye⟩ := this
      have := (va_pr a5 y hy).1
      simp only [mem_nil, or_false]
      constructor
      · rintro (h1 | ⟨h1, h2⟩)
        · exact ⟨.inl h1, by omega⟩
        · exact ⟨.inr h1, h2⟩
      · rintro ⟨h1 | h1, h2⟩
        · exact .inl h1
        · exact .inr ⟨h1, h2⟩
theorem rem_va {e : Int × Int} (he : 0 < e.2) : ∀ {l : List (Int × Int)} {p : Int}, Va p l → Va p (rem l e)
  | [], p, _ => trivial
  | x :: l, p, ⟨a1, a2, a3, a4, a5⟩ => by
    simp only [rem]
    split
    · rename_i hi
      simp [inn] at hi
      have IH := rem_va he a5
      unfold pcs
      rw [List.append_assoc]
      refine va_app.2 ⟨btw_va hi.1 a2 (by omega) a1, va_app.2 ⟨btw_va hi.2 (by omega) (by omega) ?_, va_mono ?_ IH⟩⟩
      · have := btw_lst (p := p) (a := x.1) (b := e.1) (by omega)
        omega
      · refine btw_lst ?_
        have := btw_lst (p := p) (a := x.1) (b := e.1) (by omega)
        omega
    · exact ⟨a1, a2, a3, a4, rem_va he a5⟩

/-- What lies between the extents from a on. -/
def gaps : Int → List (Int × Int) → List (Int × Int)
  | _, [] => []
  | a, x :: l => btw a x.1 ++ gaps (x.1 + x.2) l
theorem gaps_app {b : List (Int × Int)} : ∀ {a : List (Int × Int)} {p : Int}, gaps p (a ++ b) = gaps p a ++ gaps (lst p a) b
  | [], p => rfl
  | x :: a, p => by simp [gaps, lst, gaps_app (a := a)]
theorem gaps_take {l : List (Int × Int)} {k : Nat} {x : Int × Int} (hx : l[k]? = some x) (p : Int) : gaps p (l.take (k + 1)) = gaps p (l.take k) ++ btw (lst p (l.take k)) x.1 := by
  rw [take_one hx, gaps_app]
  simp [gaps]
theorem btw_len {a b : Int} : (btw a b).length ≤ 1 := by
  unfold btw
  split <;> simp
theorem gaps_len : ∀ {l : List (Int × Int)} {p : Int}, (gaps p l).length ≤ l.length
  | [], _ => by simp [gaps]
  | x :: l, p => by
    have := gaps_len (l := l) (p := x.1 + x.2)
    have := btw_len (a := p) (b := x.1)
    simp only [gaps, List.length_append, List.length_cons]
    omega
/-- The complement, as the chapter says it. -/
def cmp (a : Int) (l : List (Int × Int)) (size : Int) : List (Int × Int) := gaps a l ++ btw (lst a l) size
theorem cmp_cons {a size : Int} {x : Int × Int} {l : List (Int × Int)} : cmp a (x :: l) size = btw a x.1 ++ cmp (x.1 + x.2) l size := by
  simp [cmp, gaps, lst]
theorem cmp_mem : ∀ {l : List (Int × Int)} {a p size : Int}, Va p l → a ≤ p + 1 → lst a l ≤ size → ∀ t, Mem (cmp a l size) t ↔ a ≤ t ∧ t < size ∧ ¬ Mem l t
  | [], a, p, size, _, _, h, t => by
    simp only [cmp, gaps, lst, List.nil_append] at h ⊢
    rw [btw_mem h]
    simp [mem_nil]
  | x :: l, a, p, size, ⟨a1, a2, a3, a4, a5⟩, h0, h, t => by
    simp only [lst] at h
    have hl := va_lst a5
    rw [cmp_cons, mem_app, btw_mem (by omega), cmp_mem a5 (by omega) h t, mem_cons]
    constructor
    · rintro (h1 | ⟨h1, h2, h3⟩)
      · refine ⟨by omega, by omega, ?_⟩
        rintro (h4 | h4)
        · omega
        · have := (mem_lo a5 h4).1; omega
      · refine ⟨by omega, h2, ?_⟩
        rintro (h4 | h4)
        · omega
        · exact h3 h4
    · rintro ⟨h1, h2, h3⟩
      rcases Int.lt_or_le t x.1 with h4 | h4
      · exact .inl ⟨h1, h4⟩
      · refine .inr ⟨?_, h2, fun h5 => h3 (.inr h5)⟩
        rcases Int.lt_or_le t (x.1 + x.2) with h5 | h5
        · exact absurd (.inl ⟨h4, h5⟩) h3
        · exact h5
theorem cmp_va : ∀ {l : List (Int × Int)} {a p q size : Int}, Va p l → a ≤ p + 1 → lst a l ≤ size → size ≤ 1048576 → 0 ≤ a → q < a → Va q (cmp a l size)
  | [], a, p, q, size, _, _, h, h1, h2, h3 => by
    simp only [cmp, gaps, lst, List.nil_append] at h ⊢
    exact btw_va h h2 h1 h3
  | x :: l, a, p, q, size, ⟨a1, a2, a3, a4, a5⟩, h0, h, h1, h2, h3 => by
    simp only [lst] at h
    rw [cmp_cons]
    refine va_app.2 ⟨btw_va (by omega) h2 (by omega) h3, ?_⟩
    refine cmp_va a5 (by omega) h h1 (by omega) ?_
    have := btw_lst (p := q) (a := a) (b := x.1) (by omega)
    omega
theorem cmp_sm : ∀ {l : List (Int × Int)} {a size : Int}, sm (cmp a l size) + sm l = size - a
  | [], a, size => by simp [cmp, gaps, lst, btw_sm, sm]
  | x :: l, a, size => by
    have := cmp_sm (l := l) (a := x.1 + x.2) (size := size)
    have h : ∀ a b : List (Int × Int), sm (a ++ b) = sm a + sm b := by
      intro a b
      induction a with
      | nil => simp [sm]
      | cons y a ih => simp only [List.cons_append, sm, ih]; omega
    rw [cmp_cons, h, btw_sm]
    simp only [sm]
    omega
theorem cmp_len {l : List (Int × Int)} {a size : Int} : (cmp a l size).length ≤ l.length + 1 := by
  have := gaps_len (l := l) (p := a)
  have := btw_len (a := lst a l) (b := size)
  unfold cmp
  rw [List.length_append]
  omega
theorem lst_le {l : List (Int × Int)} {p q : Int} (hv : Va p l) {size : Int} (hq : q ≤ size) (h : ∀ t, Mem l t → t < size) : lst q l ≤ size := by
  cases hl : l.getLast? with
  | none =>
    have : l = [] := List.getLast?_eq_none_iff.1 hl
    subst this
    exact hq
  | some x =>
    obtain ⟨a, rfl⟩ := List.getLast?_eq_some_iff.1 hl
    rw [lst_app]
    have hp := (va_pr hv x (by simp)).2
    have := h (x.1 + x.2 - 1) ⟨x, by simp, by have := hp.2.1; omega, by omega⟩
    simp only [lst]
    omega
end Go.Proofs.Ytfchccgajcjbbaa
