/-
  Slices of structs in memory, of any number of cells an element: what it means that one reads as a list, how that is kept while new memory is made, what an append of such a slice to a row of the call's own gives, stores into such a row. No conditions beyond those that each lemma states.
-/
import Derived.Test.YtlgoiccekgjhnaaRow
import Derived.ChangeSame
namespace Go.Proofs.Ytlgoiccekgjhnaa
open Go.ChangeShapes Go.WideShapes Go.RowKit

/-- How an element lies in cells. -/
structure Enc (α : Type) where
  k : Nat
  ev : α → List Value
  len : ∀ x, (ev x).length = k
  one : ∀ x, ∀ u ∈ ev x, u.oneCell' = true
  pos : 0 < k
variable {α : Type} {E : Enc α}
/-- A list, as cells. -/
def Enc.row (E : Enc α) : List α → List Value
  | [] => []
  | x :: l => E.ev x ++ E.row l
section
variable {l m : List α}
theorem kr_len : (E.row l).length = l.length * E.k := by
  induction l with
  | nil => simp [Enc.row]
  | cons x l ih => rw [Enc.row, List.length_append, ih, E.len, List.length_cons, Nat.succ_mul, Nat.add_comm]
theorem kr_app : E.row l ++ E.row m = E.row (l ++ m) := by
  induction l with
  | nil => rfl
  | cons x l ih => rw [Enc.row, List.append_assoc, ih]; rfl
theorem kr_one : ∀ u ∈ E.row l, u.oneCell' = true := by
  induction l with
  | nil => intro u hu; cases hu
  | cons x l ih =>
    intro u hu
    rcases List.mem_append.1 hu with h | h
    · exact E.one x u h
    · exact ih u h
theorem kr_at : ∀ {l : List α} {i j : Nat} {x : α} {u : Value}, l[i]? = some x → (E.ev x)[j]? = some u → (E.row l)[i * E.k + j]? = some u
  | [], _, _, _, _, h, _ => by simp at h
  | y :: l, 0, j, x, u, h, hu => by
    simp at h
    subst h
    have hj : j < (E.ev y).length := (List.getElem?_eq_some_iff.1 hu).1
    rw [Nat.zero_mul, Nat.zero_add, Enc.row, List.getElem?_append_left hj]
    exact hu
  | y :: l, i + 1, j, x, u, h, hu => by
    have := kr_at (l := l) (i := i) (j := j) (x := x) (u := u) (by simpa using h) hu
    have hy := E.len y
    rw [Enc.row, List.getElem?_append_right (by rw [hy, Nat.succ_mul]; omega), hy, show (i + 1) * E.k + j - E.k = i * E.k + j by rw [Nat.succ_mul]; omega]
    exact this
theorem kr_inv : ∀ {l : List α} {p : Nat} {u : Value}, (E.row l)[p]? = some u → ∃ i j x, l[i]? = some x ∧ p = i * E.k + j ∧ (E.ev x)[j]? = some u
  | [], _, _, h => by simp [Enc.row] at h
  | y :: l, p, u, h => by
    have hy := E.len y
    rw [Enc.row] at h
    rcases Nat.lt_or_ge p (E.ev y).length with hp | hp
    · rw [List.getElem?_append_left hp] at h
      exact ⟨0, p, y, rfl, by simp, h⟩
    · rw [List.getElem?_append_right hp] at h
      obtain ⟨i, j, x, h1, h2, h3⟩ := kr_inv h
      exact ⟨i + 1, j, x, by simpa using h1, by rw [Nat.succ_mul]; omega, h3⟩
theorem kr_take {n : Nat} : (E.row l).take (n * E.k) = E.row (l.take n) := by
  induction l generalizing n with
  | nil => simp [Enc.row]
  | cons x l ih =>
    cases n with
    | zero => simp [Enc.row]
    | succ n =>
      have hx := E.len x
      rw [Enc.row, List.take_succ_cons, Enc.row, List.take_append, List.take_of_length_le (by rw [hx, Nat.succ_mul]; omega), hx, show (n + 1) * E.k - E.k = n * E.k by rw [Nat.succ_mul]; omega, ih]
theorem kr_drop {n : Nat} : (E.row l).drop (n * E.k) = E.row (l.drop n) := by
  induction l generalizing n with
  | nil => simp [Enc.row]
  | cons x l ih =>
    cases n with
    | zero => simp
    | succ n =>
      have hx := E.len x
      rw [Enc.row, List.drop_succ_cons, List.drop_append, List.drop_of_length_le (by rw [hx, Nat.succ_mul]; omega), hx, show (n + 1) * E.k - E.k = n * E.k by rw [Nat.succ_mul]; omega, ih, List.nil_append]
end

/-- The slice with this address, length and capacity holds the elements l, below block B. -/
structure Kws (E : Enc α) (w : World) (B : Nat) (A : Option Addr) (n c : Nat) (l : List α) : Prop where
  len : l.length = n
  cap : n ≤ c
  small : c ≤ maxLen
  nil : A = none → c = 0
  cells : 0 < n → ∃ b o, A = some ⟨b, o, none⟩ ∧ b < B ∧ ∀ p u, (E.row l)[p]? = some u → w.cell? ⟨b, o + p, none⟩ = some u
section
variable {w w' : World} {B B' n c : Nat} {A : Option Addr} {l : List α}
theorem Kws.keep (h : Kws E w B A n c l) (hk : ∀ p : Addr, p.block < B → w'.cell? p = w.cell? p) : Kws E w' B A n c l :=
  ⟨h.len, h.cap, h.small, h.nil, fun hn => by
    obtain ⟨b, o, e, hb, hc⟩ := h.cells hn
    exact ⟨b, o, e, hb, fun p u hu => (hk ⟨b, o + p, none⟩ hb).trans (hc p u hu)⟩⟩
theorem Kws.more (h : Kws E w B A n c l) (hB : B ≤ B') : Kws E w B' A n c l :=
  ⟨h.len, h.cap, h.small, h.nil, fun hn => by
    obtain ⟨b, o, e, hb, hc⟩ := h.cells hn
    exact ⟨b, o, e, by omega, hc⟩⟩
theorem Kws.below (h : Kws E w B A n c l) (hb : Below B w w') : Kws E w' B A n c l := h.keep fun _ hp => hb.cell hp
theorem Kws.go (h : Kws E w w.heap.size A n c l) (hb : Below w.heap.size w w') : Kws E w' w'.heap.size A n c l := (h.below hb).more hb.size
theorem Kws.alloc (h : Kws E w w.heap.size A n c l) (o : Obj) : Kws E (w.alloc o) w.heap.size A n c l := h.below ((Below.refl _ _).alloc (Nat.le_refl _) o)
theorem Kws.none_ : Kws E w B none 0 0 [] := ⟨rfl, Nat.le_refl _, Nat.zero_le _, fun _ => rfl, fun h => absurd h (by omega)⟩
theorem Kws.drop (h : Kws E w B A n c l) {k : Nat} (hk : k ≤ n) : Kws E w B (if c = k then A else A.map (·.add (k * E.k))) (n - k) (c - k) (l.drop k) := by
  refine ⟨by rw [List.length_drop, h.len], by have := h.cap; omega, by have := h.small; omega, ?_, fun hn => ?_⟩
  · intro he
    by_cases hc : c = k
    · omega
    · rw [if_neg hc] at he
      have : A = none := by cases A with | none => rfl | some a => cases he
      have := h.nil this; omega
  · obtain ⟨b, o, rfl, hb, hcell⟩ := h.cells (by omega)
    have hcap := h.cap
    rw [if_neg (by omega)]
    refine ⟨b, o + k * E.k, by simp [Addr.add_lit], hb, fun p u hu => ?_⟩
    rw [Nat.add_assoc]
    refine hcell (k * E.k + p) u ?_
    rw [← kr_drop, List.getElem?_drop] at hu
    exact hu
theorem Kws.take (h : Kws E w B A n c l) {k : Nat} (hk : k ≤ n) : Kws E w B A k c (l.take k) := by
  refine ⟨by rw [List.length_take, h.len]; omega, by have := h.cap; omega, h.small, h.nil, fun hn => ?_⟩
  obtain ⟨b, o, rfl, hb, hcell⟩ := h.cells (by omega)
  refine ⟨b, o, rfl, hb, fun p u hu => hcell p u ?_⟩
  rw [← kr_take, List.getElem?_take] at hu
  split at hu
  · exact hu
  · cases hu
/-- The element at a place: where it lies and what it is. -/
theorem Kws.at_ (h : Kws E w B A n c l) {i : Nat} (hi : i < n) :
    ∃ b o x, l[i]? = some x ∧ A = some ⟨b, o, none⟩ ∧ b < B ∧ ∀ j u, (E.ev x)[j]? = some u → w.cell? ⟨b, o + i * E.k + j, none⟩ = some u := by
  obtain ⟨b, o, e, hb, hcell⟩ := h.cells (by omega)
  have hil : i < l.length := by have := h.len; omega
  have hx : l[i]? = some l[i] := List.getElem?_eq_getElem hil
  exact ⟨b, o, l[i], hx, e, hb, fun j u hu => by rw [Nat.add_assoc]; exact hcell _ u (kr_at hx hu)⟩
/-- A new block with the elements l. -/
theorem Kws.new (w : World) (l : List α) (cs : Array Value) (e : TypeId) (n : Nat) (hcs : cs.toList = E.row l) (hn : l.length = n) (hl : n ≤ maxLen) :
    Kws E (w.alloc (.cells cs e)) (w.heap.size + 1) (some ⟨w.heap.size, 0, none⟩) n n l :=
  ⟨hn, Nat.le_refl _, hl, (fun h => by cases h), fun _ => ⟨_, _, rfl, by omega, fun p u hu => by
    have e1 := cell_of_row (w.alloc (.cells cs e)) w.heap.size (0 + p) cs e (0, 0) (heap_alloc_new w _)
    rw [e1, Nat.zero_add]
    rw [← hcs] at hu
    simpa using hu⟩⟩
end

/-- The row v is the call's own, above base, and holds the elements l of type t. -/
def OwnK (E : Enc α) (t : TypeId) (w : World) (base : Nat) (v : Value) (l : List α) : Prop := w.ownsRow base t E.k v l.length (E.row l)
section
variable {t : TypeId} {w w' : World} {base B : Nat} {v : Value} {l : List α}
theorem OwnK.nil (E : Enc α) (t : TypeId) (w : World) (base : Nat) : OwnK E t w base (.slice none 0 0) [] := World.ownsRow_nil w base _ _
theorem OwnK.shape (h : OwnK E t w base v l) : ∃ A n c, v = .slice A n c ∧ Kws E w w.heap.size A n c l := by
  rcases h.2 with ⟨rfl, h0⟩ | ⟨g, cap, cur, rfl, hb, hg, hnc, hm, hs, ht⟩
  · have : l = [] := List.eq_nil_of_length_eq_zero h0
    subst this
    exact ⟨none, 0, 0, rfl, Kws.none_⟩
  · refine ⟨some ⟨g, 0, none⟩, _, cap, rfl, rfl, hnc, hm, (fun h => by cases h), fun hn => ⟨g, 0, rfl, (Array.getElem?_eq_some_iff.1 hg).1, fun p u hu => ?_⟩⟩
    have hp : p < (E.row l).length := (List.getElem?_eq_some_iff.1 hu).1
    rw [kr_len] at hp
    rw [Nat.zero_add, cell_of_row w g p cur _ _ hg]
    rw [← ht, List.getElem?_take, if_pos hp] at hu
    simpa using hu
theorem OwnK.ge (h : OwnK E t w base v l) {g : Nat} (hg : v.ownBlock = some g) : base ≤ g ∧ g < w.heap.size := World.ownsRow.lt h g hg
theorem OwnK.alloc (h : OwnK E t w base v l) (o : Obj) : OwnK E t (w.alloc o) base v l := World.ownsRow.alloc h o
theorem OwnK.down (h : OwnK E t w base v l) (hb : B ≤ base) : OwnK E t w B v l := World.ownsRow.mono h hb
theorem OwnK.kept {row : Option Nat} (h : OwnK E t w base v l) (hg : w.grownBy w' row) (hne : v.ownBlock = none ∨ v.ownBlock ≠ row) : OwnK E t w' base v l := World.ownsRow.kept h hg hne
theorem OwnK.below (h : OwnK E t w base v l) (hb : Below w.heap.size w w') : OwnK E t w' base v l := by
  refine ⟨h.1, ?_⟩
  rcases h.2 with h0 | ⟨g, cap, cur, e, hbg, hg, rest⟩
  · exact .inl h0
  · exact .inr ⟨g, cap, cur, e, hbg, (hb.block g (Array.getElem?_eq_some_iff.1 hg).1).trans hg, rest⟩
/-- An own row with elements, laid open; and shut again. -/
theorem OwnK.opn (h : OwnK E t w base v l) (hn : 0 < l.length) :
    ∃ g cap cur R, v = .slice (some ⟨g, 0, none⟩) l.length cap ∧ base ≤ g ∧ g < w.heap.size ∧ w.heap[g]? = some (.cells cur t (0, 0)) ∧ l.length ≤ cap ∧ cap ≤ maxLen ∧ cur.size = cap * E.k ∧ cur.toList = E.row l ++ R := by
  rcases h.2 with ⟨_, h0⟩ | ⟨g, cap, cur, rfl, hb, hg, hnc, hm, hs, ht⟩
  · omega
  · refine ⟨g, cap, cur, cur.toList.drop (l.length * E.k), rfl, hb, (Array.getElem?_eq_some_iff.1 hg).1, hg, hnc, hm, hs, ?_⟩
    rw [← ht, List.take_append_drop]
theorem OwnK.shut {g cap n : Nat} {cur : Array Value} {R : List Value} (hb : base ≤ g) (hg : w.heap[g]? = some (.cells cur t (0, 0))) (hnc : l.length ≤ cap) (hm : cap ≤ maxLen) (hs : cur.size = cap * E.k)
    (ht : cur.toList = E.row l ++ R) (hn : n = l.length) : OwnK E t w base (.slice (some ⟨g, 0, none⟩) n cap) l := by
  subst hn
  refine ⟨kr_len, .inr ⟨g, cap, cur, rfl, hb, hg, hnc, hm, hs, ?_⟩⟩
  rw [ht, List.take_append_of_le_length (by rw [kr_len]; omega), List.take_of_length_le (by rw [kr_len]; omega)]
end

section
variable {P : Program} (w : World)
theorem run_appK (t ty e : TypeId) (i : TypeInfo) (z : Value) (ht : P.underlying t = some (.slice e)) (hi : P.info? e = some i) (hz : i.zero = some z) (hzs : z.cells.size = E.k) (hsz : i.size = E.k) (hby : i.bytes ≤ 32768)
    (base : Nat) (v : Value) (xs : List α) (hown : OwnK E e w base v xs) {B : Nat} {A : Option Addr} {m c : Nat} {ys : List α} (hy : Kws E w B A m c ys)
    (hs : xs.length + m ≤ 4294967296) (hb : base ≤ w.heap.size) :
    ∃ v' w', (Builtin.append_ #[t, t] ty #[v, .slice A m c]).run P w = .ok v' w' ∧ OwnK E e w' base v' (xs ++ ys) ∧ Below base w w' ∧ w.grownBy w' v.ownBlock ∧ (v'.ownBlock = v.ownBlock ∨ v'.ownBlock = some w.heap.size) := by
  rcases A with _ | ad
  · have h0 := hy.nil rfl
    have h1 := hy.cap
    obtain rfl : c = 0 := h0
    obtain rfl : m = 0 := by omega
    have hl : ys = [] := List.eq_nil_of_length_eq_zero hy.len
    subst hl
    exact ⟨v, w, run_append_owned_none (P := P) w base t ty _ i E.k ht hi v _ _ hown, by simpa using hown, Below.refl _ _, World.grownBy.refl _ _, .inl rfl⟩
  · have hcells : ∀ j u, (E.row ys)[j]? = some u → w.cell? (ad.add j) = some u := by
      intro j u hu
      obtain ⟨i', j', x, hx, _, _⟩ := kr_inv hu
      have hj : i' < ys.length := (List.getElem?_eq_some_iff.1 hx).1
      have := hy.len
      obtain ⟨b, o, e, _, hcl⟩ := hy.cells (by omega)
      obtain rfl := Option.some.inj e
      rw [Addr.add_lit]
      exact hcl j u hu
    obtain ⟨v', w', hr, h2, h3, _, h5⟩ := run_append_own_at (P := P) w base t ty _ i z E.k i.bytes ht hi hz hsz rfl hzs E.pos v xs.length (E.row xs) hown ad m c (E.row ys)
      (by rw [kr_len, hy.len]) hcells kr_one (by unfold maxLen; omega) (Nat.le_trans (Nat.mul_le_mul hs hby) (by omega)) hb
    refine ⟨v', w', hr, ?_, (Below.refl _ _).grown h3 hb (fun k hk => (World.ownsRow.lt hown k hk).1), h3, h5⟩
    unfold OwnK
    rw [List.length_append, hy.len, ← kr_app]
    exact h2
/-- The walk at an append of such a slice to a row of the call's own. -/
theorem wpList_appK {ops : Array Oper} {rest : List Oper} {o : Oper} {a : Act} {Q : Exit → Act → World → Prop} (hgd : o.guard = none) (s x : Operand) (t : TypeId)
    (ho : o.op = .call { callee := .builtin .append, args := #[s, x], argTypes := #[t, t] })
    {e : TypeId} {i : TypeInfo} {z : Value} (ht : P.underlying t = some (.slice e)) (hi : P.info? e = some i) (hz : i.zero = some z) (hzs : z.cells.size = E.k) (hsz : i.size = E.k) (hby : i.bytes ≤ 32768)
    {base : Nat} {v : Value} {xs : List α} (hown : OwnK E e w base v xs) (hs : a.eval s = v) {B : Nat} {A : Option Addr} {m c : Nat} {ys : List α} (hy : Kws E w B A m c ys) (hx : a.eval x = .slice A m c)
    (hsm : xs.length + m ≤ 4294967296) (hb : base ≤ w.heap.size)
    (h : ∀ v' w', OwnK E e w' base v' (xs ++ ys) → Below base w w' → w.grownBy w' v.ownBlock ∧ (v'.ownBlock = v.ownBlock ∨ v'.ownBlock = some w.heap.size) → wpList P ops Q rest (a.put o.dst v') w') : wpList P ops Q (o :: rest) a w := by
  refine wpList_plain hgd fun _ hK => ?_
  obtain ⟨v', w', hrun, h2, h3, h4⟩ := run_appK (P := P) w t o.type e i z ht hi hz hzs hsz hby base v xs hown hy hsm hb
  unfold Oper.wp execOp
  simp only [ho, resolve, invoke, builtin, Sem.run_bind, Sem.run_pure, Result.andThen_ok, List.map_toArray, List.map_cons, List.map_nil, hs, hx, hrun]
  exact hK _ _ (h v' w' h2 h3 h4)
end
/-- A store into a field of an element of a row of the call's own. -/
theorem OwnK.store {t : TypeId} {w : World} {base : Nat} {v : Value} {l : List α} (h : OwnK E t w base v l) {i j : Nat} {x y : α} {u u' : Value} (hx : l[i]? = some x) (hu : (E.ev x)[j]? = some u) (hy : E.ev y = (E.ev x).set j u') :
    ∃ g cap, v = .slice (some ⟨g, 0, none⟩) l.length cap ∧ base ≤ g ∧ g < w.heap.size ∧ w.cell? ⟨g, i * E.k + j, none⟩ = some u ∧ w.frozen? ⟨g, i * E.k + j, none⟩ = false ∧
      OwnK E t (w.setCell ⟨g, i * E.k + j, none⟩ u') base v (l.set i y) := by
  have hi : i < l.length := (List.getElem?_eq_some_iff.1 hx).1
  have hj : j < E.k := by have := (List.getElem?_eq_some_iff.1 hu).1; rwa [E.len] at this
  obtain ⟨g, cap, cur, R, rfl, hb, hg, hgg, hnc, hm, hs, ht⟩ := h.opn (by omega)
  have hrow := kr_at (E := E) hx hu
  have hp : i * E.k + j < (E.row l).length := (List.getElem?_eq_some_iff.1 hrow).1
  have hset : ∀ {l : List α} {i : Nat} {x : α}, l[i]? = some x → E.ev y = (E.ev x).set j u' → (E.row l).set (i * E.k + j) u' = E.row (l.set i y) := by
    intro l
    induction l with
    | nil => intro i x hx _; simp at hx
    | cons z l ih =>
      intro i x hx hy
      have hz := E.len z
      cases i with
      | zero =>
        simp at hx
        subst hx
        rw [Nat.zero_mul, Nat.zero_add, Enc.row, List.set_append_left _ _ (by omega), ← hy, List.set_cons_zero, Enc.row]
      | succ i =>
        rw [Enc.row, List.set_cons_succ, Enc.row, List.set_append_right _ _ (by rw [hz, Nat.succ_mul]; omega), hz, show (i + 1) * E.k + j - E.k = i * E.k + j by rw [Nat.succ_mul]; omega, ih (by simpa using hx) hy]
  refine ⟨g, cap, rfl, hb, hg, ?_, frozen_of_row w g _ _ _ hgg, ?_⟩
  · rw [cell_of_row w g _ _ _ _ hgg]
    have : cur.toList[i * E.k + j]? = some u := by rw [ht, List.getElem?_append_left hp]; exact hrow
    simpa using this
  · refine OwnK.shut (cur := cur.setIfInBounds (i * E.k + j) u') (R := R) hb (heap_setCell_same w g _ _ _ _ hgg) (by rw [List.length_set]; exact hnc) hm (by simpa using hs) ?_ (by rw [List.length_set])
    rw [Array.toList_setIfInBounds, ht, List.set_append_left _ _ hp, hset hx hy]

/-! Elements that are structs of integers. -/
/-- A struct of k integers, all of the kind int. -/
def ints (k : Nat) (hk : 0 < k) : Enc { l : List Int // l.length = k } where
  k := k
  ev := fun x => iv .i64 x.1
  len := fun x => by rw [iv_len]; exact x.2
  one := fun x => iv_one
  pos := hk
/-- A struct of two integers. -/
def int2 : Enc (Int × Int) where
  k := 2
  ev := fun x => [.int .i64 x.1, .int .i64 x.2]
  len := fun _ => rfl
  one := fun x u hu => by
    simp only [List.mem_cons, List.not_mem_nil, or_false] at hu
    rcases hu with rfl | rfl <;> rfl
  pos := by omega
/-- A struct of three integers. -/
def int3 : Enc (Int × Int × Int) where
  k := 3
  ev := fun x => [.int .i64 x.1, .int .i64 x.2.1, .int .i64 x.2.2]
  len := fun _ => rfl
  one := fun x u hu => by
    simp only [List.mem_cons, List.not_mem_nil, or_false] at hu
    rcases hu with rfl | rfl | rfl <;> rfl
  pos := by omega
end Go.Proofs.Ytlgoiccekgjhnaa
