/-
  Rows of the call's own with a colour: how they are kept while blocks of other colours are written, what an append gives. No conditions beyond those that each lemma states.
-/
import Derived.Test.YtlgoiccekgjhnaaKep
import Derived.Test.YtlgoiccekgjhnaaKow
namespace Go.Proofs.Ytlgoiccekgjhnaa
open Go.ChangeShapes Go.WideShapes Go.RowKit
set_option linter.unusedVariables false
set_option maxHeartbeats 4000000

section
variable {α : Type} {E : Enc α} {t : TypeId} {w w' : World} {base B k : Nat} {c : Nat → Nat} {v : Value} {l : List α}
theorem OwnK.keptC (h : OwnK E t w base v l) (hk : Kept c k w w') (hne : ∀ g, v.ownBlock = some g → c g ≠ k) : OwnK E t w' base v l := by
  refine ⟨h.1, ?_⟩
  rcases h.2 with h0 | ⟨g, cap, cur, rfl, hbg, hg, rest⟩
  · exact .inl h0
  · exact .inr ⟨g, cap, cur, rfl, hbg, (hk.block g (Array.getElem?_eq_some_iff.1 hg).1 (hne g rfl)).trans hg, rest⟩
end
theorem run_setOwn (w : World) (p : Nat) (u : Value) : w.grownBy (w.setCell ⟨p, 0, none⟩ u) (some p) :=
  ⟨rfl, rfl, rfl, by simp [World.setCell], fun k hk hne => heap_setCell_other w ⟨p, 0, none⟩ k u (fun e => hne (by rw [e]))⟩
theorem run_setAt (w : World) (g o : Nat) (u : Value) : w.grownBy (w.setCell ⟨g, o, none⟩ u) (some g) :=
  ⟨rfl, rfl, rfl, by simp [World.setCell], fun k hk hne => heap_setCell_other w ⟨g, o, none⟩ k u (fun e => hne (by rw [e]))⟩
theorem OwnK.num {α : Type} {E : Enc α} {t : TypeId} {w : World} {base n c : Nat} {A : Option Addr} {l : List α} (h : OwnK E t w base (.slice A n c) l) : n = l.length := by
  obtain ⟨A', n', c', e, hx⟩ := h.shape
  cases e
  exact hx.len.symm
/-- An integer. -/
def int1 : Enc Int where
  k := 1
  ev := fun x => [.int .i64 x]
  len := fun _ => rfl
  one := fun x u hu => by
    simp only [List.mem_singleton] at hu
    subst hu
    rfl
  pos := by omega
/-- A row of the call's own whose block has the colour k. -/
def OwC {α : Type} (k : Nat) (E : Enc α) (t : TypeId) (w : World) (c : Nat → Nat) (v : Value) (l : List α) : Prop := OwnK E t w 0 v l ∧ ∀ g, v.ownBlock = some g → c g = k
/-- Blocks from n on get the colour 0, but the row's own block gets the colour k. -/
def cn (c : Nat → Nat) (n k : Nat) (v : Value) : Nat → Nat := fun g => if g < n then c g else if v.ownBlock = some g then k else 0
theorem cn_old {c : Nat → Nat} {n k g : Nat} {v : Value} (h : g < n) : cn c n k v g = c g := if_pos h
theorem cn_new {c : Nat → Nat} {n k g : Nat} {v : Value} (h : n ≤ g) (hg : v.ownBlock ≠ some g) : cn c n k v g = 0 := by
  unfold cn
  rw [if_neg (by omega), if_neg hg]
section
variable {α : Type} {E : Enc α} {t : TypeId} {w w' : World} {c c' : Nat → Nat} {j k b : Nat} {v v' : Value} {l l' : List α}
theorem OwC.nil : OwC k E t w c (.slice none 0 0) [] := ⟨OwnK.nil _ _ _ _, fun g hg => by cases hg⟩
theorem OwC.kept (h : OwC k E t w c v l) (hk : Kept c j w w') (hjk : j ≠ k) (hc : ∀ g, g < w.heap.size → c' g = c g) : OwC k E t w' c' v l :=
  ⟨h.1.keptC hk (fun g hg => by rw [h.2 g hg]; omega), fun g hg => (hc g (h.1.ge hg).2).trans (h.2 g hg)⟩
/-- What an append to such a row gives. -/
theorem OwC.app (h : OwC k E t w c v l) (ho : OwnK E t w' 0 v' l') (hg : w.grownBy w' v.ownBlock) (hv : v'.ownBlock = v.ownBlock ∨ v'.ownBlock = some w.heap.size) : OwC k E t w' (cn c w.heap.size k v') v' l' ∧ Kept c k w w' := by
  refine ⟨⟨ho, fun g hgo => ?_⟩, Kept.ofGrown hg h.2⟩
  unfold cn
  by_cases hlt : g < w.heap.size
  · rw [if_pos hlt]
    rcases hv with e | e
    · exact h.2 g (e ▸ hgo)
    · rw [e] at hgo
      cases hgo
      omega
  · rw [if_neg hlt, if_pos hgo]
end
theorem step_appK {P : Program} {α : Type} {E' : Enc α} (w : World) {ops : Array Oper} {o : Oper} {a : Act} {K : Act → World → Prop} {Q : Exit → Act → World → Prop} {E : Prop} (hgd : o.guard = none) (s x : Operand) (t : TypeId)
    (ho : o.op = .call { callee := .builtin .append, args := #[s, x], argTypes := #[t, t] })
    {e : TypeId} {i : TypeInfo} {z : Value} (ht : P.underlying t = some (.slice e)) (hi : P.info? e = some i) (hz : i.zero = some z) (hzs : z.cells.size = E'.k) (hsz : i.size = E'.k) (hby : i.bytes ≤ 32768)
    {base : Nat} {v : Value} {xs : List α} (hown : OwnK E' e w base v xs) (hs : a.eval s = v) {B : Nat} {A : Option Addr} {m c : Nat} {ys : List α} (hy : Kws E' w B A m c ys) (hx : a.eval x = .slice A m c)
    (hsm : xs.length + m ≤ 4294967296) (hb : base ≤ w.heap.size)
    (h : ∀ v' w', OwnK E' e w' base v' (xs ++ ys) → w.grownBy w' v.ownBlock → (v'.ownBlock = v.ownBlock ∨ v'.ownBlock = some w.heap.size) → K (a.put o.dst v') w') :
    if Region.wanted o (yielded ops a.tmps) = true then Oper.wp P o a w K Q else E := by
  have hw : Region.wanted o (yielded ops a.tmps) = true := by simp [Region.wanted, hgd]
  rw [if_pos hw]
  obtain ⟨v', w', hrun, h2, h3, h4, h5⟩ := run_appK (P := P) w t o.type e i z ht hi hz hzs hsz hby base v xs hown hy hsm hb
  unfold Oper.wp execOp
  simp only [ho, resolve, invoke, builtin, Sem.run_bind, Sem.run_pure, Result.andThen_ok, List.map_toArray, List.map_cons, List.map_nil, hs, hx, hrun]
  exact h v' w' h2 h4 h5
end Go.Proofs.Ytlgoiccekgjhnaa
