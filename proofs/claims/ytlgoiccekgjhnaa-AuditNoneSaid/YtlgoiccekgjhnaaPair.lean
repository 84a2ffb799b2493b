/-
  Slices of pairs of integers in memory (two cells a value): what it means that one reads as a list of pairs, how that is kept while new memory is made, and what an append of such a slice to a row of the call's own gives. No conditions beyond those that each lemma states.
-/
import Derived.Test.YtlgoiccekgjhnaaRow
import Derived.Deep.SlicePairs
import Derived.ChangeSame
namespace Go.Proofs.Ytlgoiccekgjhnaa
open Go.ChangeShapes Go.WideShapes Go.RowKit

/-- A list of pairs of integers, as cells. -/
def ev : List (Int × Int) → List Value
  | [] => []
  | x :: l => .int .i64 x.1 :: .int .i64 x.2 :: ev l
section
variable {l m : List (Int × Int)}
theorem ev_len : (ev l).length = l.length * 2 := by
  induction l with
  | nil => rfl
  | cons x l ih => simp only [ev, List.length_cons, ih]; omega
theorem ev_app : ev l ++ ev m = ev (l ++ m) := by
  induction l with
  | nil => rfl
  | cons x l ih => simp [ev, ih]
theorem ev_one : ∀ u ∈ ev l, u.oneCell' = true := by
  induction l with
  | nil => intro u hu; cases hu
  | cons x l ih =>
    intro u hu
    simp only [ev, List.mem_cons] at hu
    rcases hu with rfl | rfl | hu
    · rfl
    · rfl
    · exact ih u hu
theorem ev_at : ∀ {l : List (Int × Int)} {i : Nat} {x : Int × Int}, l[i]? = some x → (ev l)[i * 2]? = some (.int .i64 x.1) ∧ (ev l)[i * 2 + 1]? = some (.int .i64 x.2)
  | [], _, _, h => by simp at h
  | y :: l, 0, x, h => by
    simp at h
    subst h
    exact ⟨rfl, rfl⟩
  | y :: l, i + 1, x, h => by
    have := ev_at (l := l) (i := i) (x := x) (by simpa using h)
    rw [show (i + 1) * 2 = i * 2 + 1 + 1 by omega]
    simpa [ev] using this
theorem ev_inv : ∀ {l : List (Int × Int)} {j : Nat} {u : Value}, (ev l)[j]? = some u → ∃ i x, l[i]? = some x ∧ ((j = i * 2 ∧ u = .int .i64 x.1) ∨ (j = i * 2 + 1 ∧ u = .int .i64 x.2))
  | [], _, _, h => by simp [ev] at h
  | y :: l, 0, u, h => by
    simp [ev] at h
    exact ⟨0, y, rfl, .inl ⟨rfl, h.symm⟩⟩
  | y :: l, 1, u, h => by
    simp [ev] at h
    exact ⟨0, y, rfl, .inr ⟨rfl, h.symm⟩⟩
  | y :: l, j + 2, u, h => by
    obtain ⟨i, x, hx, h1⟩ := ev_inv (l := l) (j := j) (u := u) (by simpa [ev] using h)
    refine ⟨i + 1, x, by simpa using hx, ?_⟩
    rcases h1 with ⟨h1, h2⟩ | ⟨h1, h2⟩
    · exact .inl ⟨by omega, h2⟩
    · exact .inr ⟨by omega, h2⟩
end

/-- Each number of each pair fits into 64 bits. -/
def Fits (l : List (Int × Int)) : Prop := ∀ x ∈ l, (-9223372036854775808 ≤ x.1 ∧ x.1 ≤ 9223372036854775807) ∧ (-9223372036854775808 ≤ x.2 ∧ x.2 ≤ 9223372036854775807)
theorem Fits.nil : Fits [] := fun x hx => by cases hx
theorem Fits.app {l m : List (Int × Int)} (h : Fits l) (h' : Fits m) : Fits (l ++ m) := fun x hx => by
  rcases List.mem_append.1 hx with h1 | h1
  · exact h x h1
  · exact h' x h1
theorem Fits.take {l : List (Int × Int)} (h : Fits l) (k : Nat) : Fits (l.take k) := fun x hx => h x (List.mem_of_mem_take hx)
theorem Fits.drop {l : List (Int × Int)} (h : Fits l) (k : Nat) : Fits (l.drop k) := fun x hx => h x (List.mem_of_mem_drop hx)

/-- The slice with this address, length and capacity holds the pairs l, below block B. -/
structure Exs (w : World) (B : Nat) (A : Option Addr) (n c : Nat) (l : List (Int × Int)) : Prop where
  len : l.length = n
  cap : n ≤ c
  small : c ≤ maxLen
  nil : A = none → c = 0
  fits : Fits l
  cells : 0 < n → ∃ b o, A = some ⟨b, o, none⟩ ∧ b < B ∧ ∀ i x, l[i]? = some x → w.cell? ⟨b, o + i * 2, none⟩ = some (.int .i64 x.1) ∧ w.cell? ⟨b, o + i * 2 + 1, none⟩ = some (.int .i64 x.2)

section
variable {w w' : World} {B B' n c : Nat} {A : Option Addr} {l : List (Int × Int)}
theorem Exs.keep (h : Exs w B A n c l) (hk : ∀ p : Addr, p.block < B → w'.cell? p = w.cell? p) : Exs w' B A n c l :=
  ⟨h.len, h.cap, h.small, h.nil, h.fits, fun hn => by
    obtain ⟨b, o, e, hb, hc⟩ := h.cells hn
    refine ⟨b, o, e, hb, fun i x hx => ?_⟩
    rw [hk ⟨b, o + i * 2, none⟩ hb, hk ⟨b, o + i * 2 + 1, none⟩ hb]
    exact hc i x hx⟩
theorem Exs.more (h : Exs w B A n c l) (hB : B ≤ B') : Exs w B' A n c l :=
  ⟨h.len, h.cap, h.small, h.nil, h.fits, fun hn => by
    obtain ⟨b, o, e, hb, hc⟩ := h.cells hn
    exact ⟨b, o, e, by omega, hc⟩⟩
theorem Exs.below (h : Exs w B A n c l) (hb : Below B w w') : Exs w' B A n c l := h.keep fun _ hp => hb.cell hp
theorem Exs.go (h : Exs w w.heap.size A n c l) (hb : Below w.heap.size w w') : Exs w' w'.heap.size A n c l := (h.below hb).more hb.size
theorem Exs.alloc (h : Exs w w.heap.size A n c l) (o : Obj) : Exs (w.alloc o) w.heap.size A n c l := h.below ((Below.refl _ _).alloc (Nat.le_refl _) o)
theorem Exs.none_ : Exs w B none 0 0 [] := ⟨rfl, Nat.le_refl _, Nat.zero_le _, fun _ => rfl, Fits.nil, fun h => absurd h (by omega)⟩
theorem Exs.drop (h : Exs w B A n c l) {k : Nat} (hk : k ≤ n) : Exs w B (if c = k then A else A.map (·.add (k * 2))) (n - k) (c - k) (l.drop k) := by
  refine ⟨by rw [List.length_drop, h.len], by have := h.cap; omega, by have := h.small; omega, ?_, h.fits.drop k, fun hn => ?_⟩
  · intro he
    by_cases hc : c = k
    · omega
    · rw [if_neg hc] at he
      have : A = none := by cases A with | none => rfl | some a => cases he
      have := h.nil this; omega
  · obtain ⟨b, o, rfl, hb, hcell⟩ := h.cells (by omega)
    have hcap := h.cap
    rw [if_neg (by omega)]
    refine ⟨b, o + k * 2, by simp [Addr.add_lit], hb, fun i x hx => ?_⟩
    have := hcell (k + i) x (by simpa using hx)
    rw [show o + k * 2 + i * 2 = o + (k + i) * 2 by omega]
    exact this
theorem Exs.take (h : Exs w B A n c l) {k : Nat} (hk : k ≤ n) : Exs w B A k c (l.take k) := by
  refine ⟨by rw [List.length_take, h.len]; omega, by have := h.cap; omega, h.small, h.nil, h.fits.take k, fun hn => ?_⟩
  obtain ⟨b, o, rfl, hb, hcell⟩ := h.cells (by omega)
  refine ⟨b, o, rfl, hb, fun i x hx => hcell i x ?_⟩
  rw [List.getElem?_take] at hx
  split at hx
  · exact hx
  · cases hx
/-- The pair at a place: where it lies and what it is. -/
theorem Exs.at_ (h : Exs w B A n c l) {k : Nat} (hk : k < n) :
    ∃ b o x y, l[k]? = some (x, y) ∧ A = some ⟨b, o, none⟩ ∧ b < B ∧ w.cell? ⟨b, o + k * 2, none⟩ = some (.int .i64 x) ∧ w.cell? ⟨b, o + k * 2 + 1, none⟩ = some (.int .i64 y) ∧
      -9223372036854775808 ≤ x ∧ x ≤ 9223372036854775807 ∧ -9223372036854775808 ≤ y ∧ y ≤ 9223372036854775807 := by
  obtain ⟨b, o, e, hb, hcell⟩ := h.cells (by omega)
  have hkl : k < l.length := by have := h.len; omega
  have hx : l[k]? = some l[k] := List.getElem?_eq_getElem hkl
  obtain ⟨h1, h2⟩ := hcell k _ hx
  obtain ⟨⟨f1, f2⟩, f3, f4⟩ := h.fits _ (List.getElem_mem hkl)
  exact ⟨b, o, l[k].1, l[k].2, hx, e, hb, h1, h2, f1, f2, f3, f4⟩
/-- A new block with the pairs l. -/
theorem Exs.new (w : World) (l : List (Int × Int)) (cs : Array Value) (e : TypeId) (n : Nat) (hcs : cs.toList = ev l) (hn : l.length = n) (hl : n ≤ maxLen) (hf : Fits l) :
    Exs (w.alloc (.cells cs e)) (w.heap.size + 1) (some ⟨w.heap.size, 0, none⟩) n n l :=
  ⟨hn, Nat.le_refl _, hl, (fun h => by cases h), hf, fun _ => ⟨_, _, rfl, by omega, fun i x hx => by
    obtain ⟨h1, h2⟩ := ev_at hx
    have e1 := cell_of_row (w.alloc (.cells cs e)) w.heap.size (0 + i * 2) cs e (0, 0) (heap_alloc_new w _)
    have e2 := cell_of_row (w.alloc (.cells cs e)) w.heap.size (0 + i * 2 + 1) cs e (0, 0) (heap_alloc_new w _)
    rw [e1, e2]
    rw [← hcs] at h1 h2
    simp only [Nat.zero_add]
    exact ⟨by simpa using h1, by simpa using h2⟩⟩⟩
end

/-- The row v is the call's own, above base, and holds the pairs l of type t. -/
def OwnE (t : TypeId) (w : World) (base : Nat) (v : Value) (l : List (Int × Int)) : Prop := w.ownsRow base t 2 v l.length (ev l) ∧ Fits l
section
variable {t : TypeId} {w w' : World} {base B : Nat} {v : Value} {l : List (Int × Int)}
theorem OwnE.nil (t : TypeId) (w : World) (base : Nat) : OwnE t w base (.slice none 0 0) [] := ⟨World.ownsRow_nil w base _ _, Fits.nil⟩
theorem OwnE.shape (h : OwnE t w base v l) : ∃ A n c, v = .slice A n c ∧ Exs w w.heap.size A n c l := by
  obtain ⟨h, hf⟩ := h
  rcases h.2 with ⟨rfl, h0⟩ | ⟨g, cap, cur, rfl, hb, hg, hnc, hm, hs, ht⟩
  · have : l = [] := List.eq_nil_of_length_eq_zero h0
    subst this
    exact ⟨none, 0, 0, rfl, Exs.none_⟩
  · refine ⟨some ⟨g, 0, none⟩, _, cap, rfl, rfl, hnc, hm, (fun h => by cases h), hf, fun hn => ⟨g, 0, rfl, ?_, fun i x hx => ?_⟩⟩
    · rcases Nat.lt_or_ge g w.heap.size with h1 | h1
      · exact h1
      · rw [Array.getElem?_eq_none h1] at hg; cases hg
    · obtain ⟨h1, h2⟩ := ev_at hx
      have hil : i < l.length := (List.getElem?_eq_some_iff.1 hx).1
      rw [Nat.zero_add, cell_of_row w g (i * 2) cur _ _ hg, cell_of_row w g (i * 2 + 1) cur _ _ hg]
      rw [← ht, List.getElem?_take, if_pos (by omega)] at h1 h2
      exact ⟨by simpa using h1, by simpa using h2⟩
theorem OwnE.alloc (h : OwnE t w base v l) (o : Obj) : OwnE t (w.alloc o) base v l := ⟨World.ownsRow.alloc h.1 o, h.2⟩
theorem OwnE.down (h : OwnE t w base v l) (hb : B ≤ base) : OwnE t w B v l := ⟨World.ownsRow.mono h.1 hb, h.2⟩
theorem OwnE.kept {row : Option Nat} (h : OwnE t w base v l) (hg : w.grownBy w' row) (hne : v.ownBlock = none ∨ v.ownBlock ≠ row) : OwnE t w' base v l := ⟨World.ownsRow.kept h.1 hg hne, h.2⟩
theorem OwnE.below (h : OwnE t w base v l) (hb : Below w.heap.size w w') : OwnE t w' base v l := by
  refine ⟨⟨h.1.1, ?_⟩, h.2⟩
  rcases h.1.2 with h0 | ⟨g, cap, cur, e, hbg, hg, hnc, hm, hs, ht⟩
  · exact .inl h0
  · refine .inr ⟨g, cap, cur, e, hbg, ?_, hnc, hm, hs, ht⟩
    rw [hb.block g ?_]
    · exact hg
    · rcases Nat.lt_or_ge g w.heap.size with h1 | h1
      · exact h1
      · rw [Array.getElem?_eq_none h1] at hg; cases hg
end

section
variable {P : Program} (w : World)
theorem run_appE (t ty e : TypeId) (i : TypeInfo) (z : Value) (ht : P.underlying t = some (.slice e)) (hi : P.info? e = some i) (hz : i.zero = some z) (hzs : z.cells.size = 2) (hsz : i.size = 2) (hby : i.bytes ≤ 64)
    (base : Nat) (v : Value) (xs : List (Int × Int)) (hown : OwnE e w base v xs) {B : Nat} {A : Option Addr} {m c : Nat} {ys : List (Int × Int)} (hy : Exs w B A m c ys)
    (hs : xs.length + m ≤ 4294967296) (hb : base ≤ w.heap.size) :
    ∃ v' w', (Builtin.append_ #[t, t] ty #[v, .slice A m c]).run P w = .ok v' w' ∧ OwnE e w' base v' (xs ++ ys) ∧ Below base w w' ∧ w.grownBy w' v.ownBlock ∧ (v'.ownBlock = v.ownBlock ∨ v'.ownBlock = some w.heap.size) := by
  rcases A with _ | ad
  · have h0 := hy.nil rfl
    have h1 := hy.cap
    obtain rfl : c = 0 := h0
    obtain rfl : m = 0 := by omega
    have hl : ys = [] := List.eq_nil_of_length_eq_zero hy.len
    subst hl
    exact ⟨v, w, run_append_owned_none (P := P) w base t ty _ i 2 ht hi v _ _ hown.1, by simpa using hown, Below.refl _ _, World.grownBy.refl _ _, .inl rfl⟩
  · have hcells : ∀ j u, (ev ys)[j]? = some u → w.cell? (ad.add j) = some u := by
      intro j u hu
      obtain ⟨i', x, hx, hc⟩ := ev_inv hu
      have hj : i' < ys.length := (List.getElem?_eq_some_iff.1 hx).1
      have := hy.len
      obtain ⟨b, o, e, _, hcl⟩ := hy.cells (by omega)
      obtain rfl := Option.some.inj e
      obtain ⟨h1, h2⟩ := hcl i' x hx
      rw [Addr.add_lit]
      rcases hc with ⟨rfl, rfl⟩ | ⟨rfl, rfl⟩
      · exact h1
      · rw [← Nat.add_assoc]; exact h2
    obtain ⟨v', w', hr, h2, h3, _, h5⟩ := run_append_own_at (P := P) w base t ty _ i z 2 i.bytes ht hi hz hsz rfl hzs (by omega) v xs.length (ev xs) hown.1 ad m c (ev ys)
      (by rw [ev_len, hy.len]) hcells ev_one (by unfold maxLen; omega) (Nat.le_trans (Nat.mul_le_mul hs hby) (by omega)) hb
    refine ⟨v', w', hr, ⟨?_, hown.2.app hy.fits⟩, (Below.refl _ _).grown h3 hb (fun k hk => (World.ownsRow.lt hown.1 k hk).1), h3, h5⟩
    rw [List.length_append, hy.len, ← ev_app]
    exact h2

/-- The walk at an append of a slice of pairs to a row of the call's own. -/
theorem wpList_appE {ops : Array Oper} {rest : List Oper} {o : Oper} {a : Act} {Q : Exit → Act → World → Prop} (hgd : o.guard = none) (s x : Operand) (t : TypeId)
    (ho : o.op = .call { callee := .builtin .append, args := #[s, x], argTypes := #[t, t] })
    {e : TypeId} {i : TypeInfo} {z : Value} (ht : P.underlying t = some (.slice e)) (hi : P.info? e = some i) (hz : i.zero = some z) (hzs : z.cells.size = 2) (hsz : i.size = 2) (hby : i.bytes ≤ 64)
    {base : Nat} {v : Value} {xs : List (Int × Int)} (hown : OwnE e w base v xs) (hs : a.eval s = v) {B : Nat} {A : Option Addr} {m c : Nat} {ys : List (Int × Int)} (hy : Exs w B A m c ys) (hx : a.eval x = .slice A m c)
    (hsm : xs.length + m ≤ 4294967296) (hb : base ≤ w.heap.size)
    (h : ∀ v' w', OwnE e w' base v' (xs ++ ys) → Below base w w' → w.grownBy w' v.ownBlock ∧ (v'.ownBlock = v.ownBlock ∨ v'.ownBlock = some w.heap.size) → wpList P ops Q rest (a.put o.dst v') w') : wpList P ops Q (o :: rest) a w := by
  refine wpList_plain hgd fun _ hK => ?_
  obtain ⟨v', w', hrun, h2, h3, h4⟩ := run_appE (P := P) w t o.type e i z ht hi hz hzs hsz hby base v xs hown hy hsm hb
  unfold Oper.wp execOp
  simp only [ho, resolve, invoke, builtin, Sem.run_bind, Sem.run_pure, Result.andThen_ok, List.map_toArray, List.map_cons, List.map_nil, hs, hx, hrun]
  exact hK _ _ (h v' w' h2 h3 h4)
end

/-- A slice of pairs that came in. -/
def IsExs (w : World) (a : Option Addr) (len cap : Nat) (l : List (Int × Int)) : Prop := Exs w w.heap.size a len cap l
theorem open_exs {H : Type} {enc : TypeId × Value → H} {P : Program} {w : World} {base : Nat} {held : Bool} {t e : TypeId} {f0 f1 : Field} {a : Option Addr} {len cap : Nat} {d : DataW H} {ps : List MemPlace}
    (ht : P.underlying t = some (.slice e)) (he : P.underlying e = some (.struct #[f0, f1])) (ce : P.cellsOf e = 2) (o0 : f0.offset = 0) (o1 : f1.offset = 1) (c0 : P.cellsOf f0.type = 1) (c1 : P.cellsOf f1.type = 1)
    (q0 : P.underlying f0.type = some (.int .i64)) (q1 : P.underlying f1.type = some (.int .i64))
    (h : DataW.Trod enc P w base (fun _ => true) held t (.slice a len cap) d ps) : ∃ l, IsExs w a len cap l := by
  obtain ⟨fuel, hf⟩ := h
  rcases Go.Deep.open_slice_pairs ht he ce o0 o1 c0 c1 hf with ⟨hcs, _⟩ | ⟨x, ln, cp, m, n, V0, V1, D0, D1, P0, P1, hcs, _, hl, hm, hmm, _, hx⟩
  · simp [Value.cells] at hcs
    obtain ⟨rfl, rfl, rfl⟩ := hcs
    exact ⟨[], Exs.none_⟩
  · simp [Value.cells] at hcs
    obtain ⟨rfl, rfl, rfl⟩ := hcs
    rw [if_pos rfl] at hmm
    subst hmm
    have each : ∀ i, i < m → ∃ q : Int × Int, V0 i = .int .i64 q.1 ∧ V1 i = .int .i64 q.2 ∧ (Lit.int .i64 q.1).wf = true ∧ (Lit.int .i64 q.2).wf = true := by
      intro i hi
      obtain ⟨_, _, h1, h2⟩ := hx i hi
      obtain ⟨x0, e0, _, w0⟩ := DataW.trod_int q0 h1
      obtain ⟨x1, e1, _, w1⟩ := DataW.trod_int q1 h2
      simp at e0 e1
      exact ⟨(x0, x1), e0, e1, w0, w1⟩
    obtain ⟨q, hq⟩ := Go.Deep.choose_lt each
    refine ⟨(List.range len).map q, by simp, hl, hm, (fun h => by cases h), ?_, fun hn => ?_⟩
    · intro y hy
      obtain ⟨i, hi, rfl⟩ := List.mem_map.1 hy
      obtain ⟨_, _, w0, w1⟩ := hq i (by have := List.mem_range.1 hi; omega)
      have b0 := Go.bounds_i64 w0
      have b1 := Go.bounds_i64 w1
      omega
    · obtain ⟨b, o, i⟩ := x
      have h0 := (hx 0 (by omega)).1
      have hi : i = none := by
        cases i with
        | none => rfl
        | some j =>
          simp only [World.cell?, Addr.add] at h0
          split at h0 <;> cases h0
      subst hi
      refine ⟨b, o, rfl, ?_, fun j y hj => ?_⟩
      · rw [Addr.add_lit] at h0
        exact lt_of_some h0
      · have hjl : j < len := by
          have := (List.getElem?_eq_some_iff.1 hj).1
          simpa using this
        obtain ⟨g1, g2, _, _⟩ := hx j (by omega)
        obtain ⟨e0, e1, _, _⟩ := hq j (by omega)
        rw [Addr.add_lit] at g1 g2
        have : y = q j := by simpa [hjl] using hj.symm
        subst this
        rw [g1, e0, Nat.add_assoc, g2, e1]
        exact ⟨rfl, rfl⟩
end Go.Proofs.Ytlgoiccekgjhnaa
