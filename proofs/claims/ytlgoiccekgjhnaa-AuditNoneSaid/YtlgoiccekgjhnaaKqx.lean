/-
  What the rounds of a range over a function keep that append to a row of their own: all cells but the box that holds the row, and the row. No conditions.
-/
import Derived.Test.YtlgoiccekgjhnaaCell
import Derived.Test.YtlgoiccekgjhnaaCol
namespace Go.Proofs.Ytlgoiccekgjhnaa
open Go.ChangeShapes Go.WideShapes Go.ChangeAt Go.RowKit Go.Shelf

/-- The block of the row that a box holds. -/
def ob (bx : Nat) (W : World) : Option Nat := (W.cell? ⟨bx, 0, none⟩).bind Value.ownBlock
/-- What a round keeps: all cells but the box and its row; and its row is the old one or a new one. -/
def Kq (bx : Nat) (A B : World) : Prop := A.heap.size ≤ B.heap.size ∧ (∀ (g : Nat) (cs : Array Value) (t : TypeId) (fr : Nat × Nat), A.heap[g]? = some (.cells cs t fr) → g ≠ bx → ob bx A ≠ some g → B.heap[g]? = some (.cells cs t fr)) ∧ (ob bx B = ob bx A ∨ ∀ g, ob bx B = some g → A.heap.size ≤ g)
theorem Kq.t {bx : Nat} {A B C : World} (h : Kq bx A B) (k : Kq bx B C) : Kq bx A C := by
  obtain ⟨h1, h2, h3⟩ := h
  obtain ⟨k1, k2, k3⟩ := k
  refine ⟨Nat.le_trans h1 k1, fun g cs t fr hg hne ho => k2 g cs t fr (h2 g cs t fr hg hne ho) hne (fun e => ?_), ?_⟩
  · rcases h3 with h3 | h3
    · exact ho (h3 ▸ e)
    · have := h3 g e
      have := (Array.getElem?_eq_some_iff.1 hg).1
      omega
  · rcases k3 with k3 | k3
    · rw [k3]
      exact h3
    · exact .inr fun g hg => Nat.le_trans h1 (k3 g hg)
theorem Kq.b {bx : Nat} (w : World) (hbx : bx < w.heap.size) (W : World) (l : Nat) (o o' : Obj) (hl : w.heap.size ≤ l) (h : W.heap[l]? = some o) (hc : o.isCells = false) (_hw : o.isWalk = false) : Kq bx W (W.putObj l o') := by
  refine ⟨by simp, fun g cs t fr hcell _ _ => ?_, .inl ?_⟩
  · have hne : g ≠ l := fun e => by
      rw [e, h] at hcell
      cases hcell
      simp [Obj.isCells] at hc
    rw [World.putObj_heap_other hne]
    exact hcell
  · unfold ob
    rw [World.cell?_of_block (w := W) (w' := W.putObj l o') (a := ⟨bx, 0, none⟩) (World.putObj_heap_other (by simp only; omega))]
theorem Kq.alloc {bx : Nat} {W : World} (hbx : bx < W.heap.size) (o : Obj) : Kq bx W (W.alloc o) := by
  refine ⟨by simp, fun g cs t fr hcell _ _ => (Below.heap_alloc W o g (Array.getElem?_eq_some_iff.1 hcell).1).trans hcell, .inl ?_⟩
  unfold ob
  rw [World.cell?_of_block (w := W) (w' := W.alloc o) (a := ⟨bx, 0, none⟩) (Below.heap_alloc W o bx hbx)]
theorem KeepsOthers.allo (W : World) (o : Obj) : KeepsOthers W (W.alloc o) := ⟨by simp, fun k o' hk _ => (Below.heap_alloc W o k (Array.getElem?_eq_some_iff.1 hk).1).trans hk⟩
theorem below_grown {w w' : World} (h : Below w.heap.size w w') (r : Option Nat) : w.grownBy w' r := ⟨h.os, h.tape, h.output, h.size, fun k hk _ => h.block k hk⟩
/-- A row of the call's own whose block has not changed. -/
theorem OwnK.same {α : Type} {E : Enc α} {t : TypeId} {w w' : World} {base : Nat} {v : Value} {l : List α} (h : OwnK E t w base v l) (hs : ∀ g cs, v.ownBlock = some g → base ≤ g → w.heap[g]? = some (.cells cs t (0, 0)) → w'.heap[g]? = some (.cells cs t (0, 0))) : OwnK E t w' base v l := by
  refine ⟨h.1, ?_⟩
  rcases h.2 with h0 | ⟨g, cap, cur, rfl, hbg, hg, rest⟩
  · exact .inl h0
  · exact .inr ⟨g, cap, cur, rfl, hbg, hs g _ rfl hbg hg, rest⟩
theorem OwnK.cells_at {α : Type} {E : Enc α} {t : TypeId} {w : World} {base g : Nat} {v : Value} {l : List α} (h : OwnK E t w base v l) (hg : v.ownBlock = some g) : ∃ cs, w.heap[g]? = some (.cells cs t (0, 0)) := by
  rcases h.2 with ⟨rfl, _⟩ | ⟨g', cap, cur, rfl, hbg, hg', _⟩
  · cases hg
  · cases hg
    exact ⟨_, hg'⟩
/-- The walk at an append of a slice to a row of the call's own, within a round. -/
theorem wpListIn_appK {α : Type} {E : Enc α} {F : Fence} {N : Nat} {P : Program} (w : World) {ops : Array Oper} {rest : List Oper} {o : Oper} {a : Act} {Q : Exit → Act → World → Prop} (hgd : o.guard = none) (s x : Operand) (t : TypeId)
    (ho : o.op = .call { callee := .builtin .append, args := #[s, x], argTypes := #[t, t] })
    {e : TypeId} {i : TypeInfo} {z : Value} (ht : P.underlying t = some (.slice e)) (hi : P.info? e = some i) (hz : i.zero = some z) (hzs : z.cells.size = E.k) (hsz : i.size = E.k) (hby : i.bytes ≤ 32768)
    {base : Nat} {v : Value} {xs : List α} (hown : OwnK E e w base v xs) (hs : a.eval s = v) {B : Nat} {A : Option Addr} {m c : Nat} {ys : List α} (hy : Kws E w B A m c ys) (hx : a.eval x = .slice A m c)
    (hsm : xs.length + m ≤ 4294967296) (hb : base ≤ w.heap.size)
    (h : ∀ v' w', OwnK E e w' base v' (xs ++ ys) → w.grownBy w' v.ownBlock → (v'.ownBlock = v.ownBlock ∨ v'.ownBlock = some w.heap.size) → wpListIn F N P ops Q rest (a.put o.dst v') w') : wpListIn F N P ops Q (o :: rest) a w := by
  refine wpListIn_plain hgd fun K hK' => ?_
  obtain ⟨v', w', hrun, h2, h3, h4, h5⟩ := run_appK (P := P) w t o.type e i z ht hi hz hzs hsz hby base v xs hown hy hsm hb
  unfold Oper.wpIn
  refine ⟨?_, ?_⟩
  · simp [Oper.about, ho, resolve, Target.leads, Sem.run_pure]
  · rw [Oper.semAt_plain F _ _ (by rw [ho]; intro c hc'; cases hc')]
    simp [execOp, ho, resolve, invoke, builtin, hs, hx, hrun, Result.andThen]
    exact hK' _ _ (h v' w' h2 h4 h5)
/-- The box holds a row of the call's own. -/
structure Bxr {α : Type} (E : Enc α) (t te : TypeId) (bx : Nat) (W : World) (A : Option Addr) (n c : Nat) (l : List α) : Prop where
  cel : Cel W bx t (.slice A n c)
  own : OwnK E te W (bx + 1) (.slice A n c) l
section
variable {α : Type} {E : Enc α} {t te : TypeId} {bx : Nat} {W w3 : World} {A A3 : Option Addr} {n c n3 c3 : Nat} {l l' : List α} {o : Obj}
theorem Bxr.grown {row : Option Nat} (h : Bxr E t te bx W A n c l) (hg : W.grownBy w3 row) (hr : ∀ r, row = some r → ∃ o : Obj, W.heap[r]? = some o ∧ o.isCells = false) : Bxr E t te bx w3 A n c l := by
  refine ⟨(hg.block bx h.cel.lt (fun e => ?_)).trans h.cel, OwnK.kept h.own hg ?_⟩
  · obtain ⟨o, ho1, ho2⟩ := hr bx e.symm
    have := h.cel
    unfold Cel at this
    rw [this] at ho1
    cases ho1
    simp [Obj.isCells] at ho2
  · rcases hb : (Value.slice A n c).ownBlock with _ | g
    · exact .inl rfl
    · refine .inr fun e => ?_
      obtain ⟨o, ho1, ho2⟩ := hr g e.symm
      obtain ⟨cs, hcs⟩ := h.own.cells_at hb
      rw [hcs] at ho1
      cases ho1
      simp [Obj.isCells] at ho2
theorem Bxr.go (h : Bxr E t te bx W A n c l) (hb : Below W.heap.size W w3) : Bxr E t te bx w3 A n c l := ⟨h.cel.go hb, h.own.below hb⟩
/-- What an append behind a making gives, before the store. -/
theorem Bxr.app (h : Bxr E t te bx W A n c l) (ho3 : OwnK E te w3 (bx + 1) (.slice A3 n3 c3) l') (hg3 : (W.alloc o).grownBy w3 (Value.slice A n c).ownBlock) (hn3 : (Value.slice A3 n3 c3).ownBlock = (Value.slice A n c).ownBlock ∨ (Value.slice A3 n3 c3).ownBlock = some (W.alloc o).heap.size) :
    Cel w3 bx t (.slice A n c) ∧ Bxr E t te bx (w3.setCell ⟨bx, 0, none⟩ (.slice A3 n3 c3)) A3 n3 c3 l' ∧ KeepsOthers W (w3.setCell ⟨bx, 0, none⟩ (.slice A3 n3 c3)) ∧ Kq bx W (w3.setCell ⟨bx, 0, none⟩ (.slice A3 n3 c3)) ∧ Below bx W (w3.setCell ⟨bx, 0, none⟩ (.slice A3 n3 c3)) := by
  have hbx := h.cel.lt
  have hge : ∀ g, (Value.slice A n c).ownBlock = some g → bx < g ∧ g < W.heap.size := fun g hg => ⟨(h.own.ge hg).1, (h.own.ge hg).2⟩
  have hc3 : Cel w3 bx t (.slice A n c) := (hg3.block bx (by simp; omega) (fun e => by have := (hge bx e.symm).1; omega)).trans ((Below.heap_alloc W o bx hbx).trans h.cel)
  have hobW : ob bx W = (Value.slice A n c).ownBlock := by unfold ob; rw [h.cel.cell]; rfl
  have hob : ob bx (w3.setCell ⟨bx, 0, none⟩ (.slice A3 n3 c3)) = (Value.slice A3 n3 c3).ownBlock := by
    unfold ob
    rw [(hc3.set (.slice A3 n3 c3)).cell]
    rfl
  have hz3 : W.heap.size + 1 ≤ w3.heap.size := by have := hg3.size; simpa using this
  refine ⟨hc3, ⟨hc3.set _, OwnK.kept ho3 (run_setOwn w3 bx _) (.inr fun e => by have := (ho3.ge e).1; omega)⟩, ?_, ⟨by simp [World.setCell]; omega, fun g cs t fr hcell hne hob' => ?_, ?_⟩, ?_⟩
  · refine ((KeepsOthers.allo W o).trans ⟨hg3.size, fun k o' hk hc => ?_⟩).trans (KeepsOthers.setCell _ _ _)
    refine (hg3.block k (Array.getElem?_eq_some_iff.1 hk).1 (fun e => ?_)).trans hk
    obtain ⟨cs, hcs⟩ := h.own.cells_at e.symm
    rw [Below.heap_alloc W o k (hge k e.symm).2, hcs] at hk
    cases hk
    simp [Obj.isCells] at hc
  · rw [Below.heap_setCell _ _ _ _ hne, hg3.block g (by have := (Array.getElem?_eq_some_iff.1 hcell).1; simp; omega) (fun e => hob' (by rw [hobW, e])), Below.heap_alloc W _ g (Array.getElem?_eq_some_iff.1 hcell).1]
    exact hcell
  · rw [hob, hobW]
    rcases hn3 with h | h
    · exact .inl h
    · refine .inr fun g hg => ?_
      rw [h] at hg
      cases hg
      simp
  · exact (((Below.refl bx W).alloc (by omega) o).grown hg3 (by simp; omega) (fun g e => by have := (hge g e).1; omega)).setCell (p := ⟨bx, 0, none⟩) (Nat.le_refl _) _
end
end Go.Proofs.Ytlgoiccekgjhnaa
