/-
  Slices of one-cell values in memory: what it means that one reads as a list of values, how that is kept while new memory is made, what an append of such a slice to a row of the call's own gives, stores into such a row, lists of numbers, lists of slices of bytes. No conditions beyond those that each lemma states.
-/
import Derived.Below
import Derived.OwnWalk
import Derived.Maps.AppendAt
import Derived.Deep.AppendLies
import Derived.Deep.Onto
import Derived.Deep.Draws
import Derived.Deep.Matrix
import Derived.Laws.BytesArg
import Derived.Laws.Rows
import Derived.WalkSmall
import Derived.RegionTactic
import Derived.OpenShut
import Derived.OneCell
import Derived.Lib.Hide
namespace Go.Proofs.Ytlgoiccekgjhnaa
open Go.ChangeShapes Go.WideShapes Go.RowKit

theorem lt_of_some {w : World} {b o : Nat} {v : Value} (h : w.cell? ⟨b, o, none⟩ = some v) : b < w.heap.size := by
  rcases Nat.lt_or_ge b w.heap.size with h1 | h1
  · exact h1
  · simp [World.cell?, Array.getElem?_eq_none h1] at h

/-- The slice with this address, length and capacity holds the values vs, below block B. -/
structure Row (w : World) (B : Nat) (A : Option Addr) (n c : Nat) (vs : List Value) : Prop where
  len : vs.length = n
  cap : n ≤ c
  small : c ≤ maxLen
  nil : A = none → c = 0
  cells : 0 < n → ∃ b o, A = some ⟨b, o, none⟩ ∧ b < B ∧ ∀ i, i < n → w.cell? ⟨b, o + i, none⟩ = vs[i]?

section
variable {w w' : World} {B B' n c : Nat} {A : Option Addr} {vs : List Value}
theorem Row.keep (h : Row w B A n c vs) (hk : ∀ p : Addr, p.block < B → w'.cell? p = w.cell? p) : Row w' B A n c vs :=
  ⟨h.len, h.cap, h.small, h.nil, fun hn => by
    obtain ⟨b, o, e, hb, hc⟩ := h.cells hn
    exact ⟨b, o, e, hb, fun i hi => (hk ⟨b, o + i, none⟩ hb).trans (hc i hi)⟩⟩
theorem Row.more (h : Row w B A n c vs) (hB : B ≤ B') : Row w B' A n c vs :=
  ⟨h.len, h.cap, h.small, h.nil, fun hn => by
    obtain ⟨b, o, e, hb, hc⟩ := h.cells hn
    exact ⟨b, o, e, by omega, hc⟩⟩
theorem Row.below (h : Row w B A n c vs) (hb : Below B w w') : Row w' B A n c vs := h.keep fun _ hp => hb.cell hp
theorem Row.go (h : Row w w.heap.size A n c vs) (hb : Below w.heap.size w w') : Row w' w'.heap.size A n c vs := (h.below hb).more hb.size
theorem Row.alloc (h : Row w w.heap.size A n c vs) (o : Obj) : Row (w.alloc o) w.heap.size A n c vs := h.below ((Below.refl _ _).alloc (Nat.le_refl _) o)
theorem Row.none_ : Row w B none 0 0 [] := ⟨rfl, Nat.le_refl _, Nat.zero_le _, fun _ => rfl, fun h => absurd h (by omega)⟩
/-- A cut from the left. -/
theorem Row.drop (h : Row w B A n c vs) {k : Nat} (hk : k ≤ n) : Row w B (if c = k then A else A.map (·.add k)) (n - k) (c - k) (vs.drop k) := by
  refine ⟨by rw [List.length_drop, h.len], by have := h.cap; omega, by have := h.small; omega, ?_, fun hn => ?_⟩
  · intro he
    by_cases hc : c = k
    · omega
    · rw [if_neg hc] at he
      have : A = none := by cases A with | none => rfl | some a => cases he
      have := h.nil this; omega
  · obtain ⟨b, o, rfl, hb, hcell⟩ := h.cells (by omega)
    have hcap := h.cap
    rw [if_neg (by omega)]
    refine ⟨b, o + k, by simp [Addr.add_lit], hb, fun i hi => ?_⟩
    rw [Nat.add_assoc, hcell (k + i) (by omega)]
    simp
/-- A cut from the right. -/
theorem Row.take (h : Row w B A n c vs) {k : Nat} (hk : k ≤ n) : Row w B A k c (vs.take k) := by
  refine ⟨by rw [List.length_take, h.len]; omega, by have := h.cap; omega, h.small, h.nil, fun hn => ?_⟩
  obtain ⟨b, o, rfl, hb, hcell⟩ := h.cells (by omega)
  refine ⟨b, o, rfl, hb, fun i hi => ?_⟩
  rw [hcell i (by omega)]
  simp [hi]
theorem Row.at_ (h : Row w B A n c vs) {k : Nat} (hk : k < n) : ∃ b o, A = some ⟨b, o, none⟩ ∧ b < B ∧ w.cell? ⟨b, o + k, none⟩ = vs[k]? := by
  obtain ⟨b, o, e, hb, hcell⟩ := h.cells (by omega)
  exact ⟨b, o, e, hb, hcell k hk⟩
/-- A new block with the values vs. -/
theorem Row.new (w : World) (vs : List Value) (cs : Array Value) (e : TypeId) (hcs : cs.toList = vs) (hl : vs.length ≤ maxLen) (fr : Nat × Nat := (0, 0)) :
    Row (w.alloc (.cells cs e fr)) (w.heap.size + 1) (some ⟨w.heap.size, 0, none⟩) vs.length vs.length vs :=
  ⟨rfl, Nat.le_refl _, hl, (fun h => by cases h), fun _ => ⟨_, _, rfl, by omega, fun i hi => by
    have e1 := cell_of_row (w.alloc (.cells cs e fr)) w.heap.size (0 + i) cs e fr (heap_alloc_new w _)
    rw [e1, Nat.zero_add, ← hcs]
    simp⟩⟩
end

/-- The row v is the call's own, above base, and holds the values vs of type t. -/
def Own (t : TypeId) (w : World) (base : Nat) (v : Value) (vs : List Value) : Prop := w.ownsRow base t 1 v vs.length vs
section
variable {t : TypeId} {w w' : World} {base B : Nat} {v : Value} {vs : List Value}
theorem Own.nil (t : TypeId) (w : World) (base : Nat) : Own t w base (.slice none 0 0) [] := World.ownsRow_nil w base _ _
theorem Own.form (h : Own t w base v vs) : ∃ A c, v = .slice A vs.length c ∧ Row w w.heap.size A vs.length c vs := by
  rcases h.2 with ⟨rfl, h0⟩ | ⟨g, cap, cur, rfl, hb, hg, hnc, hm, hs, ht⟩
  · have : vs = [] := List.eq_nil_of_length_eq_zero h0
    subst this
    exact ⟨none, 0, rfl, Row.none_⟩
  · refine ⟨some ⟨g, 0, none⟩, cap, rfl, rfl, hnc, hm, (fun h => by cases h), fun hn => ⟨g, 0, rfl, ?_, fun i hi => ?_⟩⟩
    · rcases Nat.lt_or_ge g w.heap.size with h1 | h1
      · exact h1
      · rw [Array.getElem?_eq_none h1] at hg; cases hg
    · rw [Nat.zero_add, World.ownsRow.cellAt h i (by omega)]
theorem Own.shape (h : Own t w base v vs) : ∃ A n c, v = .slice A n c ∧ Row w w.heap.size A n c vs := by
  obtain ⟨A, c, e, hb⟩ := h.form
  exact ⟨A, _, c, e, hb⟩
theorem Own.alloc (h : Own t w base v vs) (o : Obj) : Own t (w.alloc o) base v vs := World.ownsRow.alloc h o
theorem Own.down (h : Own t w base v vs) (hb : B ≤ base) : Own t w B v vs := World.ownsRow.mono h hb
theorem Own.below (h : Own t w base v vs) (hb : Below w.heap.size w w') : Own t w' base v vs := by
  refine ⟨h.1, ?_⟩
  rcases h.2 with h0 | ⟨g, cap, cur, e, hbg, hg, hnc, hm, hs, ht⟩
  · exact .inl h0
  · refine .inr ⟨g, cap, cur, e, hbg, ?_, hnc, hm, hs, ht⟩
    rw [hb.block g ?_]
    · exact hg
    · rcases Nat.lt_or_ge g w.heap.size with h1 | h1
      · exact h1
      · rw [Array.getElem?_eq_none h1] at hg; cases hg
/-- A store into a row of the call's own. -/
theorem Own.store (h : Own t w base v vs) {k : Nat} (hk : k < vs.length) :
    ∃ g cap, v = .slice (some ⟨g, 0, none⟩) vs.length cap ∧ base ≤ g ∧ g < w.heap.size ∧ w.cell? ⟨g, k, none⟩ = vs[k]? ∧ w.frozen? ⟨g, k, none⟩ = false ∧
      ∀ u : Value, Own t (w.setCell ⟨g, k, none⟩ u) base v (vs.set k u) := by
  rcases h.2 with ⟨_, h0⟩ | ⟨g, cap, cur, rfl, hb, hg, hnc, hm, hs, ht⟩
  · omega
  · refine ⟨g, cap, rfl, hb, ?_, ?_, frozen_of_row w g k _ _ hg, fun u => ⟨?_, .inr ⟨g, cap, cur.setIfInBounds k u, by rw [List.length_set], hb, heap_setCell_same w g k _ _ _ hg, by rw [List.length_set]; exact hnc, hm, by simpa using hs, ?_⟩⟩⟩
    · rcases Nat.lt_or_ge g w.heap.size with h1 | h1
      · exact h1
      · rw [Array.getElem?_eq_none h1] at hg; cases hg
    · rw [World.ownsRow.cellAt h k (by omega)]
    · omega
    · rw [Array.toList_setIfInBounds, List.length_set, List.take_set, ht]
theorem Own.apart (h : Own t w base v vs) {a : Addr} (ha : a.block < base) (u : Value) : Own t (w.setCell a u) base v vs :=
  ownsRow_setCell_below h ha u
end

section
variable {P : Program} (w : World)
theorem run_app (t ty e : TypeId) (i : TypeInfo) (z : Value) (ht : P.underlying t = some (.slice e)) (hi : P.info? e = some i) (hz : i.zero = some z) (hzs : z.cells.size = 1) (hsz : i.size = 1) (hby : i.bytes ≤ 64)
    (base : Nat) (v : Value) (xs : List Value) (hown : Own e w base v xs) {B : Nat} {A : Option Addr} {m c : Nat} {ys : List Value} (hy : Row w B A m c ys) (h1 : ∀ u ∈ ys, u.oneCell' = true)
    (hs : xs.length + m ≤ 4294967296) (hb : base ≤ w.heap.size) :
    ∃ v' w', (Builtin.append_ #[t, t] ty #[v, .slice A m c]).run P w = .ok v' w' ∧ Own e w' base v' (xs ++ ys) ∧ Below base w w' := by
  rcases A with _ | ad
  · have h0 := hy.nil rfl
    have h1 := hy.cap
    obtain rfl : c = 0 := h0
    obtain rfl : m = 0 := by omega
    have hl : ys = [] := List.eq_nil_of_length_eq_zero hy.len
    subst hl
    exact ⟨v, w, run_append_owned_none (P := P) w base t ty _ i 1 ht hi v _ _ hown, by simpa using hown, Below.refl _ _⟩
  · have hcells : ∀ j u, ys[j]? = some u → w.cell? (ad.add j) = some u := by
      intro j u hu
      have hj : j < ys.length := (List.getElem?_eq_some_iff.1 hu).1
      have := hy.len
      obtain ⟨b, o, e, _, hc⟩ := hy.cells (by omega)
      obtain rfl := Option.some.inj e
      rw [Addr.add_lit, hc j (by omega), hu]
    obtain ⟨v', w', hr, h2, h3, _, _⟩ := run_append_own_at (P := P) w base t ty _ i z 1 i.bytes ht hi hz hsz rfl hzs (by omega) v xs.length xs hown ad m c ys
      (by rw [hy.len, Nat.mul_one]) hcells h1 (by unfold maxLen; omega) (Nat.le_trans (Nat.mul_le_mul hs hby) (by omega)) hb
    refine ⟨v', w', hr, ?_, (Below.refl _ _).grown h3 hb (fun k hk => (World.ownsRow.lt hown k hk).1)⟩
    unfold Own
    rw [List.length_append, hy.len]
    exact h2

/-- The walk at an append of a slice to a row of the call's own. -/
theorem wpList_app {ops : Array Oper} {rest : List Oper} {o : Oper} {a : Act} {Q : Exit → Act → World → Prop} (hgd : o.guard = none) (s x : Operand) (t : TypeId)
    (ho : o.op = .call { callee := .builtin .append, args := #[s, x], argTypes := #[t, t] })
    {e : TypeId} {i : TypeInfo} {z : Value} (ht : P.underlying t = some (.slice e)) (hi : P.info? e = some i) (hz : i.zero = some z) (hzs : z.cells.size = 1) (hsz : i.size = 1) (hby : i.bytes ≤ 64)
    {base : Nat} {v : Value} {xs : List Value} (hown : Own e w base v xs) (hs : a.eval s = v) {B : Nat} {A : Option Addr} {m c : Nat} {ys : List Value} (hy : Row w B A m c ys) (hx : a.eval x = .slice A m c) (h1 : ∀ u ∈ ys, u.oneCell' = true)
    (hsm : xs.length + m ≤ 4294967296) (hb : base ≤ w.heap.size)
    (h : ∀ v' w', Own e w' base v' (xs ++ ys) → Below base w w' → wpList P ops Q rest (a.put o.dst v') w') : wpList P ops Q (o :: rest) a w := by
  refine wpList_plain hgd fun _ hK => ?_
  obtain ⟨v', w', hrun, h2, h3⟩ := run_app (P := P) w t o.type e i z ht hi hz hzs hsz hby base v xs hown hy h1 hsm hb
  unfold Oper.wp execOp
  simp only [ho, resolve, invoke, builtin, Sem.run_bind, Sem.run_pure, Result.andThen_ok, List.map_toArray, List.map_cons, List.map_nil, hs, hx, hrun]
  exact hK _ _ (h v' w' h2 h3)
end

/-- A list of numbers of kind k, as cells. -/
def iv (k : IntKind) (l : List Int) : List Value := l.map (Value.int k)
section
variable {k : IntKind} {l m : List Int}
theorem iv_len : (iv k l).length = l.length := by simp [iv]
theorem iv_app : iv k l ++ iv k m = iv k (l ++ m) := by simp [iv]
theorem iv_one : ∀ u ∈ iv k l, u.oneCell' = true := ints_oneCell k l
theorem iv_at {j : Nat} (h : j < l.length) : (iv k l)[j]? = some (.int k (l.getD j 0)) := by simp [iv, List.getD, h]
theorem iv_set {j : Nat} {x : Int} : (iv k l).set j (.int k x) = iv k (l.set j x) := by simp [iv, List.map_set]
theorem iv_take {j : Nat} : (iv k l).take j = iv k (l.take j) := by simp [iv, List.map_take]
theorem iv_drop {j : Nat} : (iv k l).drop j = iv k (l.drop j) := by simp [iv, List.map_drop]
end
/-- Each number is one of kind k. -/
def Fit (k : IntKind) (l : List Int) : Prop := ∀ x ∈ l, (Lit.int k x).wf = true
theorem Fit.at_ {k : IntKind} {l : List Int} (h : Fit k l) (h0 : (Lit.int k 0).wf = true) (j : Nat) : (Lit.int k (l.getD j 0)).wf = true := by
  by_cases hj : j < l.length
  · simp only [List.getD, List.getElem?_eq_getElem hj, Option.getD_some]
    exact h _ (List.getElem_mem hj)
  · simp [List.getD, List.getElem?_eq_none (by omega : l.length ≤ j), h0]
theorem Fit.take {k : IntKind} {l : List Int} (h : Fit k l) (j : Nat) : Fit k (l.take j) := fun x hx => h x (List.mem_of_mem_take hx)
theorem Fit.drop {k : IntKind} {l : List Int} (h : Fit k l) (j : Nat) : Fit k (l.drop j) := fun x hx => h x (List.mem_of_mem_drop hx)
theorem byte_bd {n : Int} (h : (Lit.int .u8 n).wf = true) : 0 ≤ n ∧ n ≤ 255 := by
  have := Go.bounds_u8 h
  omega
theorem u64_bd {n : Int} (h : (Lit.int .u64 n).wf = true) : 0 ≤ n ∧ n < 18446744073709551616 := by
  have := Go.bounds_u64 h
  omega
theorem u16_bd {n : Int} (h : (Lit.int .u16 n).wf = true) : 0 ≤ n ∧ n ≤ 65535 := by
  have := Go.bounds_u16 h
  omega
theorem Row.int {k : IntKind} {w : World} {B n c : Nat} {A : Option Addr} {l : List Int} (h : Row w B A n c (iv k l)) {j : Nat} (hj : j < n) :
    ∃ b o, A = some ⟨b, o, none⟩ ∧ b < B ∧ w.cell? ⟨b, o + j, none⟩ = some (.int k (l.getD j 0)) := by
  obtain ⟨b, o, e, hb, hc⟩ := h.at_ hj
  have hl := h.len
  rw [iv_len] at hl
  exact ⟨b, o, e, hb, by rw [hc, iv_at (by omega)]⟩

/-- A slice of numbers that came in: nil, or a row of as many cells as its capacity. -/
def IsRow (k : IntKind) (w : World) (a : Option Addr) (len cap : Nat) (zs : List Int) : Prop :=
  (a = none ∧ len = 0 ∧ cap = 0 ∧ zs = []) ∨
  ∃ x, a = some x ∧ len ≤ cap ∧ cap ≤ maxLen ∧ zs.length = cap ∧ (∀ i, i < zs.length → w.cell? (x.add i) = some (.int k (zs.getD i 0))) ∧ ∀ n ∈ zs, (Lit.int k n).wf = true
theorem IsRow.row {k : IntKind} {w : World} {a : Option Addr} {len cap : Nat} {zs : List Int} (h : IsRow k w a len cap zs) : Row w w.heap.size a len cap (iv k (zs.take len)) ∧ Fit k (zs.take len) := by
  rcases h with ⟨rfl, rfl, rfl, rfl⟩ | ⟨x, rfl, hl, hm, hz, hc, hw⟩
  · exact ⟨Row.none_, fun x hx => by simp at hx⟩
  · refine ⟨⟨by rw [iv_len, List.length_take]; omega, hl, hm, (fun h => by cases h), fun hn => ?_⟩, fun y hy => hw y (List.mem_of_mem_take hy)⟩
    obtain ⟨b, o, rfl, hcell⟩ := ints_at hc (by omega)
    refine ⟨b, o, rfl, ?_, fun i hi => ?_⟩
    · exact lt_of_some (hcell 0 (by omega))
    · rw [hcell i (by omega), iv_at (by rw [List.length_take]; omega)]
      simp [List.getD, hi]

/-- One slice of bytes: where it lies, its length and capacity, and what it holds. -/
structure Rec where
  A : Option Addr
  n : Nat
  c : Nat
  l : List Int
def Rec.v (r : Rec) : Value := .slice r.A r.n r.c
def rv (rs : List Rec) : List Value := rs.map Rec.v
theorem rv_len {rs : List Rec} : (rv rs).length = rs.length := by simp [rv]
theorem rv_one {rs : List Rec} : ∀ u ∈ rv rs, u.oneCell' = true := by
  intro u hu
  obtain ⟨r, _, rfl⟩ := List.mem_map.1 hu
  rfl
/-- The bytes of such slices lie below block B. -/
def Recs (w : World) (B : Nat) (rs : List Rec) : Prop := ∀ r ∈ rs, Row w B r.A r.n r.c (iv .u8 r.l) ∧ Fit .u8 r.l
section
variable {w w' : World} {B B' : Nat} {rs : List Rec}
theorem Recs.keep (h : Recs w B rs) (hk : ∀ p : Addr, p.block < B → w'.cell? p = w.cell? p) : Recs w' B rs := fun r hr => ⟨(h r hr).1.keep hk, (h r hr).2⟩
theorem Recs.more (h : Recs w B rs) (hB : B ≤ B') : Recs w B' rs := fun r hr => ⟨(h r hr).1.more hB, (h r hr).2⟩
theorem Recs.below (h : Recs w B rs) (hb : Below B w w') : Recs w' B rs := h.keep fun _ hp => hb.cell hp
theorem Recs.go (h : Recs w w.heap.size rs) (hb : Below w.heap.size w w') : Recs w' w'.heap.size rs := (h.below hb).more hb.size
theorem Recs.take (h : Recs w B rs) (k : Nat) : Recs w B (rs.take k) := fun r hr => h r (List.mem_of_mem_take hr)
end
theorem Row.rec_ {w : World} {B B' n c : Nat} {A : Option Addr} {rs : List Rec} (h : Row w B A n c (rv rs)) (hr : Recs w B' rs) {j : Nat} (hj : j < n) :
    ∃ b o r, rs[j]? = some r ∧ A = some ⟨b, o, none⟩ ∧ b < B ∧ w.cell? ⟨b, o + j, none⟩ = some (.slice r.A r.n r.c) ∧ Row w B' r.A r.n r.c (iv .u8 r.l) ∧ Fit .u8 r.l := by
  obtain ⟨b, o, e, hb, hc⟩ := h.at_ hj
  have hl := h.len
  rw [rv_len] at hl
  have hjl : j < rs.length := by omega
  refine ⟨b, o, rs[j], List.getElem?_eq_getElem hjl, e, hb, ?_, hr _ (List.getElem_mem hjl)⟩
  rw [hc]
  simp [rv, hjl, Rec.v]

/-- A slice of slices of bytes that came in. -/
def IsRecs (w : World) (a : Option Addr) (len cap : Nat) (rs : List Rec) : Prop := Row w w.heap.size a len cap (rv rs) ∧ Recs w w.heap.size rs
theorem open_recs {H : Type} {enc : TypeId × Value → H} {P : Program} {w : World} {base : Nat} {held : Bool} {t e q : TypeId} {a : Option Addr} {len cap : Nat} {d : DataW H} {ps : List MemPlace}
    (ht : P.underlying t = some (.slice e)) (he : P.underlying e = some (.slice q)) (hq : P.underlying q = some (.int .u8)) (ce : P.cellsOf e = 1) (cq : P.cellsOf q = 1)
    (h : DataW.Trod enc P w base (fun _ => true) held t (.slice a len cap) d ps) : ∃ rs, IsRecs w a len cap rs := by
  obtain ⟨fuel, hf⟩ := h
  rcases Go.Deep.open_int_rows ht he hq ce cq hf with ⟨hcs, _⟩ | ⟨x, l, c, A, L, C, Z, hcs, _, hl, hm, _, hx⟩
  · simp [Value.cells] at hcs
    obtain ⟨rfl, rfl, rfl⟩ := hcs
    exact ⟨[], Row.none_, fun r hr => by cases hr⟩
  · simp [Value.cells] at hcs
    obtain ⟨rfl, rfl, rfl⟩ := hcs
    have hsome : ∀ r, r < cap → w.cell? (x.add r) = some (.slice (A r) (L r) (C r)) := fun r hr => (hx r hr).1
    refine ⟨(List.range len).map fun r => ⟨A r, L r, C r, (Z r).take (L r)⟩, ⟨by simp [rv], hl, hm, (fun h => by cases h), fun hn => ?_⟩, fun r hr => ?_⟩
    · obtain ⟨b, o, i⟩ := x
      have h0 := hsome 0 (by omega)
      have hi : i = none := by
        cases i with
        | none => rfl
        | some j =>
          simp only [World.cell?, Addr.add] at h0
          split at h0 <;> cases h0
      subst hi
      refine ⟨b, o, rfl, ?_, fun j hj => ?_⟩
      · rw [Addr.add_lit] at h0
        exact lt_of_some h0
      · have := hsome j (by omega)
        rw [Addr.add_lit] at this
        rw [this]
        simp [rv, hj, Rec.v]
    · obtain ⟨j, hj, rfl⟩ := List.mem_map.1 hr
      obtain ⟨_, h1, h2, h3, h4, h5, h6⟩ := hx j (by have := List.mem_range.1 hj; omega)
      have : IsRow .u8 w (A j) (L j) (C j) (Z j) := by
        cases hA : A j with
        | none =>
          have h0 := h5 hA
          exact .inl ⟨rfl, by omega, h0, List.eq_nil_of_length_eq_zero (by omega)⟩
        | some a' => exact .inr ⟨a', rfl, h1, h2, h3, fun i hi => (h6 a' hA).2 i (by omega), h4⟩
      exact this.row
end Go.Proofs.Ytlgoiccekgjhnaa
