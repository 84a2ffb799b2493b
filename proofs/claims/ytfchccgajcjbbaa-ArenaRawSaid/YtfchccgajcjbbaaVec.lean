/-
  Rows of pairs that are written in place: runs of copy, clear and append into a row's own block, and contracts of slices.Clone, slices.Insert (of one element that lies elsewhere) and slices.Delete (of one element). Conditions: the rows have at most a million elements; what is inserted lies in a block of its own.
-/
import Derived.Test.YtfchccgajcjbbaaMem
import Derived.Lib.AppendZerosOnto
import Derived.Lib.SliceRun
import Derived.Lib.Overlaps
import Derived.Laws.IdiomCopy
import Derived.Laws.NewBlocks
import Derived.Deep.Upon
namespace Go.Proofs.Ytfchccgajcjbbaa
open Go.ChangeShapes Go.WideShapes Go.ChangeAt Go.RowKit
set_option maxHeartbeats 2000000
set_option maxRecDepth 100000

/-- The cells vs written over c from place o on. -/
def ovw : Array Value → Nat → List Value → Array Value
  | c, _, [] => c
  | c, o, v :: vs => ovw (c.setIfInBounds o v) (o + 1) vs
theorem ovw_size : ∀ {vs : List Value} {c : Array Value} {o : Nat}, (ovw c o vs).size = c.size
  | [], _, _ => rfl
  | v :: vs, c, o => by rw [ovw, ovw_size]; simp
theorem ovw_list : ∀ {vs b a r : List Value} {c : Array Value} {o : Nat}, c.toList = a ++ (b ++ r) → a.length = o → b.length = vs.length → (ovw c o vs).toList = a ++ (vs ++ r)
  | [], b, a, r, c, o, h, _, hb => by
    have : b = [] := List.eq_nil_of_length_eq_zero hb
    subst this
    exact h
  | v :: vs, x :: b, a, r, c, o, h, ha, hb => by
    have h1 : (c.setIfInBounds o v).toList = (a ++ [v]) ++ (b ++ r) := by
      rw [Array.toList_setIfInBounds, h, ← ha]
      simp
    rw [ovw, ovw_list h1 (by simp [ha]) (by simpa using hb)]
    simp
  | v :: vs, [], _, _, _, _, _, _, hb => by simp at hb
theorem heap_setCells {t : TypeId} {g : Nat} : ∀ {vs : List Value} {o : Nat} {w : World} {cur : Array Value}, w.heap[g]? = some (.cells cur t (0, 0)) → (w.setCells g o vs).heap[g]? = some (.cells (ovw cur o vs) t (0, 0))
  | [], _, _, _, h => h
  | v :: vs, o, w, _, h => heap_setCells (vs := vs) (o := o + 1) (w := w.setCell ⟨g, o, none⟩ v) (heap_setCell_same w g o _ _ _ h)
theorem setCells_size {g : Nat} : ∀ {vs : List Value} {o : Nat} {w : World}, (w.setCells g o vs).heap.size = w.heap.size
  | [], _, _ => rfl
  | v :: vs, o, w => by rw [World.setCells, setCells_size]; simp [World.setCell]
theorem setCells_grown {g : Nat} {vs : List Value} {o : Nat} {w : World} : w.grownBy (w.setCells g o vs) (some g) := by
  induction vs generalizing o w with
  | nil => exact World.grownBy.refl _ _
  | cons v vs ih =>
    have h1 := ih (o := o + 1) (w := w.setCell ⟨g, o, none⟩ v)
    refine ⟨h1.os, h1.tape, h1.output, ?_, fun k hk hne => ?_⟩
    · have := h1.size
      simpa [World.setCells, World.setCell] using this
    · have := h1.block k (by simpa [World.setCell] using hk) hne
      rw [World.setCells, this]
      exact Below.heap_setCell _ _ _ _ (fun e => hne (by subst e; rfl))
theorem ev_take {l : List (Int × Int)} {k : Nat} : (ev l).take (k * 2) = ev (l.take k) := by
  induction l generalizing k with
  | nil => simp [ev]
  | cons x l ih =>
    cases k with
    | zero => simp [ev]
    | succ k => rw [show (k + 1) * 2 = k * 2 + 1 + 1 by omega]; simp [ev, ih]
section
variable {P : Program}
/-- A copy into a block that is a row of pairs: all is read before anything is written. -/
theorem run_copyE (w : World) (dT sT ty elem : TypeId) (b o dLen dCap : Nat) (a : Addr) (sLen sCap : Nat) (cs : List Value)
    (hu : P.underlying dT = some (.slice elem)) (hs : (P.info? elem).map (·.size) = some 2) (hn : cs.length = Nat.min sLen dLen * 2)
    (hsrc : ∀ j v, cs[j]? = some v → w.cell? (a.add j) = some v) (hc : ∀ j, j < cs.length → (w.cell? ⟨b, o + j, none⟩).isSome = true) (hf : ∀ j, j < cs.length → w.frozen? ⟨b, o + j, none⟩ = false) (h1 : ∀ v ∈ cs, v.oneCell' = true) :
    (Builtin.copy_ #[dT, sT] ty #[.slice (some ⟨b, o, none⟩) dLen dCap, .slice (some a) sLen sCap]).run P w = .ok (goInt (Nat.min sLen dLen)) (w.setCells b o cs) := by
  have hl := run_loadCells_list (P := P) w a cs hsrc
  have hst := run_storeCells_cells (P := P) b o cs 0 w (by simpa using hc) (by simpa using hf) h1
  rw [Nat.add_zero] at hst
  rw [hn] at hl
  cases hq : P.info? elem with
  | none => simp [hq] at hs
  | some i =>
    have hi : i.size = 2 := by simpa [hq] using hs
    simp [Builtin.copy_, run_underlying hu, Builtin.lenOf, Builtin.firstCells, sizeOf, typeInfo, hq, hi, hl, hst]
theorem wpList_copyE (w : World) {ops : Array Oper} {rest : List Oper} {o : Oper} {a : Act} {Q : Exit → Act → World → Prop} (hgd : o.guard = none) (d s : Operand) (t t' : TypeId)
    (ho : o.op = .call { callee := .builtin .copy, args := #[d, s], argTypes := #[t, t'] }) (v u : Value) (hd : a.eval d = v) (hs : a.eval s = u) {v' : Value} {w' : World}
    (hr : (Builtin.copy_ #[t, t'] o.type #[v, u]).run P w = .ok v' w') (h : wpList P ops Q rest (a.put o.dst v') w') : wpList P ops Q (o :: rest) a w := by
  refine wpList_plain hgd fun _ hK => ?_
  unfold Oper.wp execOp
  simp only [ho, resolve, invoke, builtin, Sem.run_bind, Sem.run_pure, Result.andThen_ok, List.map_toArray, List.map_cons, List.map_nil, hd, hs, hr]
  exact hK _ _ h
end
/-- An own row with elements, laid open; and shut again. -/
theorem OwnE.opn {t : TypeId} {w : World} {base : Nat} {v : Value} {l : List (Int × Int)} (h : OwnE t w base v l) (hn : 0 < l.length) :
    ∃ g cap cur R, v = .slice (some ⟨g, 0, none⟩) l.length cap ∧ base ≤ g ∧ g < w.heap.size ∧ w.heap[g]? = some (.cells cur t (0, 0)) ∧ l.length ≤ cap ∧ cap ≤ maxLen ∧ cur.size = cap * 2 ∧ cur.toList = ev l ++ R := by
  rcases h.1.2 with ⟨_, h0⟩ | ⟨g, cap, cur, rfl, hb, hg, hnc, hm, hs, ht⟩
  · omega
  · refine ⟨g, cap, cur, cur.toList.drop (l.length * 2), rfl, hb, (Array.getElem?_eq_some_iff.1 hg).1, hg, hnc, hm, hs, ?_⟩
    rw [← ht, List.take_append_drop]
theorem OwnE.shut {t : TypeId} {w : World} {base g cap n : Nat} {cur : Array Value} {l : List (Int × Int)} {R : List Value} (hb : base ≤ g) (hg : w.heap[g]? = some (.cells cur t (0, 0))) (hnc : l.length ≤ cap) (hm : cap ≤ maxLen) (hs : cur.size = cap * 2)
    (ht : cur.toList = ev l ++ R) (hf : Fits l) (hn : n = l.length) : OwnE t w base (.slice (some ⟨g, 0, none⟩) n cap) l := by
  subst hn
  refine ⟨⟨by rw [ev_len], .inr ⟨g, cap, cur, rfl, hb, hg, hnc, hm, hs, ?_⟩⟩, hf⟩
  rw [ht, List.take_append_of_le_length (by rw [ev_len]; omega), List.take_of_length_le (by rw [ev_len]; omega)]

theorem slice_lo (g n c k : Nat) (z : Int) (hz : z = (k : Int)) (hk : k ≤ n) (hc : k < c) (wx : World) :
    (Instr.slice 34 (.slice (some ⟨g, 0, none⟩) n c) (some (.int .i64 z)) none none).run Try.prog wx = .ok (.slice (some ⟨g, k * 2, none⟩) (n - k) (c - k)) wx := by
  subst hz
  rw [run_slice_l (P := Try.prog) wx 34 _ n c Try.underlying34 .i64 (k : Int) (by omega) (by omega)]
  have : ¬ c = k := by omega
  simp [sliced, go_sem, this]
theorem slice_hi (g n c k : Nat) (z : Int) (hz : z = (k : Int)) (hk : k ≤ c) (wx : World) :
    (Instr.slice 34 (.slice (some ⟨g, 0, none⟩) n c) none (some (.int .i64 z)) none).run Try.prog wx = .ok (.slice (some ⟨g, 0, none⟩) k c) wx := by
  subst hz
  rw [run_slice_h (P := Try.prog) wx 34 _ n c Try.underlying34 .i64 (k : Int) (by omega) (by omega)]
  simp [sliced, go_sem]
theorem overlaps_no (w : World) (g vb o lb cb : Nat) (cur : Array Value) (c0 c1 : Value) (hg : w.heap[g]? = some (.cells cur 31 (0, 0))) (hv : w.heap[vb]? = some (.cells #[c0, c1] 31 (0, 0))) (hne : vb ≠ g) (hs : cur.size ≠ 0) :
    (callFunc 83 #[.slice (some ⟨vb, 0, none⟩) 1 1, .slice (some ⟨g, o, none⟩) lb cb]).run Try.prog w = .ok (.value (.bool false)) w := by
  rw [run_callFunc_extern Try.func83 (by kernel_rfl) (by kernel_rfl) (by kernel_rfl) (e := Extern.SlicesOverlaps.overlaps #[34, 34] #[4]) (by kernel_rfl),
    Lib.run_overlaps_apart w 34 4 31 Try.underlying34 2 (fun w => Try.sizeOf31 w) ⟨vb, 0, none⟩ ⟨g, o, none⟩ 1 1 lb cb hne 31 31 2 cur.size
      (by simp [World.shape?, hv]) (by simp [World.shape?, hg]) hs (frozen_of_row w vb 0 _ _ hv) (frozen_of_row w vb 2 _ _ hv)]
  rfl
end Go.Proofs.Ytfchccgajcjbbaa
