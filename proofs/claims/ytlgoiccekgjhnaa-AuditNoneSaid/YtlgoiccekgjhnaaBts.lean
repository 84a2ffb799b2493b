/-
  Slices of bytes in memory: what it means that one reads as a list of numbers, how that is kept while new memory is made, and what an append of such a slice to a row of the call's own gives. No conditions beyond those that each lemma states.
-/
import Derived.Test.YtlgoiccekgjhnaaRow
import Derived.Laws.BytesArg
import Derived.Deep.AppendLies
import Derived.Maps.AppendAt
namespace Go.Proofs.Ytlgoiccekgjhnaa
open Go.RowKit

/-- A list of bytes, as cells. -/
def bv (l : List Int) : List Value := l.map (Value.int .u8)
theorem bv_len (l : List Int) : (bv l).length = l.length := by simp [bv]
theorem bv_app (l m : List Int) : bv l ++ bv m = bv (l ++ m) := by simp [bv]
theorem bv_one (l : List Int) : ∀ u ∈ bv l, u.oneCell' = true := ints_oneCell .u8 l
theorem bv_get {l : List Int} {j : Nat} {u : Value} (h : (bv l)[j]? = some u) : j < l.length ∧ u = .int .u8 (l.getD j 0) := by
  have hj : j < l.length := by have := (List.getElem?_eq_some_iff.1 h).1; rwa [bv_len] at this
  refine ⟨hj, ?_⟩
  simp only [bv, List.getElem?_map, List.getElem?_eq_getElem hj, Option.map_some, Option.some.injEq] at h
  simp [List.getD, hj, ← h]
theorem bv_at {l : List Int} {j : Nat} (h : j < l.length) : (bv l)[j]? = some (.int .u8 (l.getD j 0)) := by
  simp [bv, List.getD, h]

/-- The slice with this address, length and capacity holds the bytes l, below block B. -/
structure Bts (w : World) (B : Nat) (A : Option Addr) (n c : Nat) (l : List Int) : Prop where
  len : l.length = n
  cap : n ≤ c
  small : c ≤ maxLen
  nil : A = none → c = 0
  cells : 0 < n → ∃ b o, A = some ⟨b, o, none⟩ ∧ b < B ∧ ∀ i, i < n → w.cell? ⟨b, o + i, none⟩ = some (.int .u8 (l.getD i 0))

/-- Each number is a byte. -/
def Small (l : List Int) : Prop := ∀ x ∈ l, 0 ≤ x ∧ x ≤ 255

section
variable {w w' : World} {B B' n c : Nat} {A : Option Addr} {l : List Int}
theorem Bts.keep (h : Bts w B A n c l) (hk : ∀ p : Addr, p.block < B → w'.cell? p = w.cell? p) : Bts w' B A n c l :=
  ⟨h.len, h.cap, h.small, h.nil, fun hn => by
    obtain ⟨b, o, e, hb, hc⟩ := h.cells hn
    exact ⟨b, o, e, hb, fun i hi => (hk ⟨b, o + i, none⟩ hb).trans (hc i hi)⟩⟩
theorem Bts.more (h : Bts w B A n c l) (hB : B ≤ B') : Bts w B' A n c l :=
  ⟨h.len, h.cap, h.small, h.nil, fun hn => by
    obtain ⟨b, o, e, hb, hc⟩ := h.cells hn
    exact ⟨b, o, e, by omega, hc⟩⟩
theorem Bts.below (h : Bts w B A n c l) (hb : Below B w w') : Bts w' B A n c l := h.keep fun _ hp => hb.cell hp
theorem Bts.go (h : Bts w w.heap.size A n c l) (hb : Below w.heap.size w w') : Bts w' w'.heap.size A n c l := (h.below hb).more hb.size
theorem Bts.alloc (h : Bts w w.heap.size A n c l) (o : Obj) : Bts (w.alloc o) w.heap.size A n c l := h.below ((Below.refl _ _).alloc (Nat.le_refl _) o)
theorem Bts.none_ : Bts w B none 0 0 [] := ⟨rfl, Nat.le_refl _, Nat.zero_le _, fun _ => rfl, fun h => absurd h (by omega)⟩
/-- A cut from the left. -/
theorem Bts.drop (h : Bts w B A n c l) {k : Nat} (hk : k ≤ n) : Bts w B (if c = k then A else A.map (·.add k)) (n - k) (c - k) (l.drop k) := by
  refine ⟨by rw [List.length_drop, h.len], by have := h.cap; omega, by have := h.small; omega, ?_, fun hn => ?_⟩
  · intro he
    by_cases hc : c = k
    · omega
    · rw [if_neg hc] at he
      have : A = none := by cases A with | none => rfl | some a => cases he
      have := h.nil this; omega
  · obtain ⟨b, o, rfl, hb, hcell⟩ := h.cells (by omega)
    have hcap := h.cap
    rw [if_neg (by omega)]
    refine ⟨b, o + k, by simp [Addr.add_lit], hb, fun i hi => ?_⟩
    rw [Nat.add_assoc, hcell (k + i) (by omega)]
    simp [List.getD]
/-- A cut from the right. -/
theorem Bts.take (h : Bts w B A n c l) {k : Nat} (hk : k ≤ n) : Bts w B A k c (l.take k) := by
  refine ⟨by rw [List.length_take, h.len]; omega, by have := h.cap; omega, h.small, h.nil, fun hn => ?_⟩
  obtain ⟨b, o, rfl, hb, hcell⟩ := h.cells (by omega)
  refine ⟨b, o, rfl, hb, fun i hi => ?_⟩
  rw [hcell i (by omega)]
  simp [List.getD, hi]
theorem Bts.at_ (h : Bts w B A n c l) {k : Nat} (hk : k < n) : ∃ b o, A = some ⟨b, o, none⟩ ∧ b < B ∧ w.cell? ⟨b, o + k, none⟩ = some (.int .u8 (l.getD k 0)) := by
  obtain ⟨b, o, e, hb, hcell⟩ := h.cells (by omega)
  exact ⟨b, o, e, hb, hcell k hk⟩
/-- A new block with the bytes l. -/
theorem Bts.new (w : World) (l : List Int) (cs : Array Value) (e : TypeId) (hcs : cs.toList = bv l) (hl : l.length ≤ maxLen) :
    Bts (w.alloc (.cells cs e)) (w.heap.size + 1) (some ⟨w.heap.size, 0, none⟩) l.length l.length l :=
  ⟨rfl, Nat.le_refl _, hl, (fun h => by cases h), fun _ => ⟨_, _, rfl, by omega, fun i hi => by
    have e1 := cell_of_row (w.alloc (.cells cs e)) w.heap.size (0 + i) cs e (0, 0) (heap_alloc_new w _)
    have e2 := bv_at hi
    rw [e1, Nat.zero_add, ← e2, ← hcs]
    simp⟩⟩
/-- The text of such a slice. -/
theorem Bts.text {P : Program} (h : Bts w B A n c l) (src e dst : TypeId) (hs : P.underlying src = some (.slice e)) (he : P.underlying e = some (.int .u8)) (hd : P.underlying dst = some .string) :
    (convert src dst (.slice A n c)).run P w = .ok (.string (strOfNums l)) w := by
  rcases A with _ | ad
  · have h0 := h.nil rfl
    have hl : l = [] := List.eq_nil_of_length_eq_zero (by have := h.len; have := h.cap; omega)
    rw [run_convert_bytes_nil w src e hs he n c dst hd, hl]
    rfl
  · by_cases hn : 0 < n
    · obtain ⟨b, o, e', _, hcell⟩ := h.cells hn
      obtain rfl := Option.some.inj e'
      exact run_convert_bytes_arg w src e hs he b o n c l h.len hcell dst hd
    · obtain rfl : n = 0 := by omega
      have hl : l = [] := List.eq_nil_of_length_eq_zero h.len
      subst hl
      rw [run_convert_bytes_string w src dst e _ 0 c hs he hd, run_bytesToString w _ 0 c [] (by simp [loadCells, loadCellsFrom])]
      rfl
end

/-- The row v is the call's own, above base, and holds the bytes l. -/
def OwnB (w : World) (base : Nat) (v : Value) (l : List Int) : Prop := w.ownsRow base 5 1 v l.length (bv l)
section
variable {w w' : World} {base B : Nat} {v : Value} {l : List Int}
theorem OwnB.nil (w : World) (base : Nat) : OwnB w base (.slice none 0 0) [] := World.ownsRow_nil w base _ _
theorem OwnB.form (h : OwnB w base v l) : ∃ A c, v = .slice A l.length c ∧ Bts w w.heap.size A l.length c l := by
  rcases h.2 with ⟨rfl, h0⟩ | ⟨g, cap, cur, rfl, hb, hg, hnc, hm, hs, ht⟩
  · have : l = [] := List.eq_nil_of_length_eq_zero h0
    subst this
    exact ⟨none, 0, rfl, Bts.none_⟩
  · refine ⟨some ⟨g, 0, none⟩, cap, rfl, rfl, hnc, hm, (fun h => by cases h), fun hn => ⟨g, 0, rfl, ?_, fun i hi => ?_⟩⟩
    · rcases Nat.lt_or_ge g w.heap.size with h1 | h1
      · exact h1
      · rw [Array.getElem?_eq_none h1] at hg; cases hg
    · rw [Nat.zero_add, World.ownsRow.cellAt h i (by omega), bv_at hi]
theorem OwnB.shape (h : OwnB w base v l) : ∃ A n c, v = .slice A n c ∧ Bts w w.heap.size A n c l := by
  obtain ⟨A, c, e, hb⟩ := h.form
  exact ⟨A, _, c, e, hb⟩
theorem OwnB.alloc (h : OwnB w base v l) (o : Obj) : OwnB (w.alloc o) base v l := World.ownsRow.alloc h o
theorem OwnB.down (h : OwnB w base v l) (hb : B ≤ base) : OwnB w B v l := World.ownsRow.mono h hb
theorem OwnB.below (h : OwnB w base v l) (hb : Below w.heap.size w w') : OwnB w' base v l := by
  refine ⟨h.1, ?_⟩
  rcases h.2 with h0 | ⟨g, cap, cur, e, hbg, hg, hnc, hm, hs, ht⟩
  · exact .inl h0
  · refine .inr ⟨g, cap, cur, e, hbg, ?_, hnc, hm, hs, ht⟩
    rw [hb.block g ?_]
    · exact hg
    · rcases Nat.lt_or_ge g w.heap.size with h1 | h1
      · exact h1
      · rw [Array.getElem?_eq_none h1] at hg; cases hg
end

section
variable {P : Program} (w : World)
theorem run_appB (t ty e : TypeId) (he : e = 5) (i : TypeInfo) (ht : P.underlying t = some (.slice e)) (hi : P.info? e = some i) (hz : i.zero = some (.int .u8 0)) (hsz : i.size = 1) (hby : i.bytes = 1)
    (base : Nat) (v : Value) (xs : List Int) (hown : OwnB w base v xs) {B : Nat} {A : Option Addr} {m c : Nat} {ys : List Int} (hy : Bts w B A m c ys)
    (hs : xs.length + m ≤ 4294967296) (hb : base ≤ w.heap.size) :
    ∃ v' w', (Builtin.append_ #[t, t] ty #[v, .slice A m c]).run P w = .ok v' w' ∧ OwnB w' base v' (xs ++ ys) ∧ Below base w w' := by
  subst he
  rcases A with _ | ad
  · have h0 := hy.nil rfl
    have h1 := hy.cap
    obtain rfl : c = 0 := h0
    obtain rfl : m = 0 := by omega
    have hl : ys = [] := List.eq_nil_of_length_eq_zero hy.len
    subst hl
    exact ⟨v, w, run_append_owned_none (P := P) w base t ty _ i 1 ht hi v _ _ hown, by simpa using hown, Below.refl _ _⟩
  · have hcells : ∀ j u, (bv ys)[j]? = some u → w.cell? (ad.add j) = some u := by
      intro j u hu
      obtain ⟨hj, rfl⟩ := bv_get hu
      have := hy.len
      obtain ⟨b, o, e, _, hc⟩ := hy.cells (by omega)
      obtain rfl := Option.some.inj e
      rw [Addr.add_lit]
      exact hc j (by omega)
    obtain ⟨v', w', hr, h2, h3, _, _⟩ := run_append_own_at (P := P) w base t ty _ i (.int .u8 0) 1 1 ht hi hz hsz hby rfl (by omega) v xs.length (bv xs) hown ad m c (bv ys)
      (by rw [bv_len, hy.len, Nat.mul_one]) hcells (bv_one ys) (by unfold maxLen; omega) (by omega) hb
    refine ⟨v', w', hr, ?_, (Below.refl _ _).grown h3 hb (fun k hk => (World.ownsRow.lt hown k hk).1)⟩
    unfold OwnB
    rw [← bv_app, List.length_append, hy.len]
    exact h2

/-- The walk at an append of a slice to a row of the call's own. -/
theorem wpList_appB {ops : Array Oper} {rest : List Oper} {o : Oper} {a : Act} {Q : Exit → Act → World → Prop} (hgd : o.guard = none) (s x : Operand) (t : TypeId)
    (ho : o.op = .call { callee := .builtin .append, args := #[s, x], argTypes := #[t, t] })
    {e : TypeId} (he : e = 5) {i : TypeInfo} (ht : P.underlying t = some (.slice e)) (hi : P.info? e = some i) (hz : i.zero = some (.int .u8 0)) (hsz : i.size = 1) (hby : i.bytes = 1)
    {base : Nat} {v : Value} {xs : List Int} (hown : OwnB w base v xs) (hs : a.eval s = v) {B : Nat} {A : Option Addr} {m c : Nat} {ys : List Int} (hy : Bts w B A m c ys) (hx : a.eval x = .slice A m c)
    (hsm : xs.length + m ≤ 4294967296) (hb : base ≤ w.heap.size)
    (h : ∀ v' w', OwnB w' base v' (xs ++ ys) → Below base w w' → wpList P ops Q rest (a.put o.dst v') w') : wpList P ops Q (o :: rest) a w := by
  refine wpList_plain hgd fun _ hK => ?_
  obtain ⟨v', w', hrun, h2, h3⟩ := run_appB (P := P) w t o.type e he i ht hi hz hsz hby base v xs hown hy hsm hb
  unfold Oper.wp execOp
  simp only [ho, resolve, invoke, builtin, Sem.run_bind, Sem.run_pure, Result.andThen_ok, List.map_toArray, List.map_cons, List.map_nil, hs, hx, hrun]
  exact hK _ _ (h v' w' h2 h3)
end

theorem IsRow.bts {w : World} {a : Option Addr} {len cap : Nat} {zs : List Int} (h : IsRow .u8 w a len cap zs) : Bts w w.heap.size a len cap (zs.take len) ∧ Small (zs.take len) := by
  rcases h with ⟨rfl, rfl, rfl, rfl⟩ | ⟨x, rfl, hl, hm, hz, hc, hw⟩
  · exact ⟨Bts.none_, fun x hx => by simp at hx⟩
  · refine ⟨⟨by rw [List.length_take]; omega, hl, hm, (fun h => by cases h), fun hn => ?_⟩, fun y hy => byte_bd (hw y (List.mem_of_mem_take hy))⟩
    obtain ⟨b, o, rfl, hcell⟩ := ints_at hc (by omega)
    refine ⟨b, o, rfl, ?_, fun i hi => ?_⟩
    · exact lt_of_some (hcell 0 (by omega))
    · rw [hcell i (by omega)]
      simp [List.getD, hi]
/-- The two readings are one. -/
theorem Row.bts {w : World} {B n c : Nat} {A : Option Addr} {l : List Int} (h : Row w B A n c (iv .u8 l)) : Bts w B A n c l :=
  ⟨by have := h.len; rwa [iv_len] at this, h.cap, h.small, h.nil, fun hn => by
    obtain ⟨b, o, e, hb, hc⟩ := h.cells hn
    exact ⟨b, o, e, hb, fun i hi => by rw [hc i hi, iv_at (by have := h.len; rw [iv_len] at this; omega)]⟩⟩
theorem Bts.row {w : World} {B n c : Nat} {A : Option Addr} {l : List Int} (h : Bts w B A n c l) : Row w B A n c (iv .u8 l) :=
  ⟨by rw [iv_len]; exact h.len, h.cap, h.small, h.nil, fun hn => by
    obtain ⟨b, o, e, hb, hc⟩ := h.cells hn
    exact ⟨b, o, e, hb, fun i hi => by rw [hc i hi, iv_at (by have := h.len; omega)]⟩⟩
theorem Fit.small {l : List Int} (h : Fit .u8 l) : Small l := fun x hx => byte_bd (h x hx)
theorem OwnB.own {w : World} {base : Nat} {v : Value} {l : List Int} (h : OwnB w base v l) : Own 5 w base v (iv .u8 l) := by
  unfold Own
  rw [iv_len]
  exact h
theorem Own.bts {w : World} {base : Nat} {v : Value} {l : List Int} (h : Own 5 w base v (iv .u8 l)) : OwnB w base v l := by
  unfold Own at h
  rw [iv_len] at h
  exact h
end Go.Proofs.Ytlgoiccekgjhnaa
