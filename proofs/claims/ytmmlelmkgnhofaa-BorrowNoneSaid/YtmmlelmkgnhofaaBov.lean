/-
  Borrows in memory: slices of structs of four numbers that are written in place; runs of copy, clear and append into a row's own block. Conditions: the rows have at most a million elements; what is inserted lies in a block of its own.
-/
import Derived.Test.YtmmlelmkgnhofaaBor
import Derived.Test.YtmmlelmkgnhofaaCol
import Derived.Test.YtmmlelmkgnhofaaKqx
import Derived.Test.YtmmlelmkgnhofaaStx
import Derived.Lib.AppendZerosOnto
import Derived.Lib.SliceRun
import Derived.Lib.Overlaps
import Derived.Laws.IdiomCopy
import Derived.Laws.NewBlocks
import Derived.Deep.Upon
import Derived.Deep.QuietTactic
import Derived.BigQuiet
import Derived.Lib.JoinLaws
namespace Go.Proofs.Ytmmlelmkgnhofaa
open Go.ChangeShapes Go.WideShapes Go.ChangeAt Go.RowKit
set_option linter.unusedVariables false
set_option maxHeartbeats 2000000
set_option maxRecDepth 100000

/-- A borrow as four cells. -/
def bc (x : Bo) : List Value := [.int .i64 x.o, .int .i64 x.h, .int .i64 x.m, .int .i64 x.c]
def bo4 : Enc Bo where
  k := 4
  ev := bc
  len := fun _ => rfl
  one := fun x u hu => by
    simp only [bc, List.mem_cons, List.not_mem_nil, or_false] at hu
    rcases hu with rfl | rfl | rfl | rfl <;> rfl
  pos := by omega
theorem br_len {l : List Bo} : (bo4.row l).length = l.length * 4 := kr_len (E := bo4)
theorem br_app {l m : List Bo} : bo4.row l ++ bo4.row m = bo4.row (l ++ m) := kr_app (E := bo4)
theorem br_drop {l : List Bo} {k : Nat} : (bo4.row l).drop (k * 4) = bo4.row (l.drop k) := kr_drop (E := bo4)
theorem br_split {l : List Bo} (i : Nat) : bo4.row l = bo4.row (l.take i) ++ bo4.row (l.drop i) := by rw [br_app, List.take_append_drop]
theorem br_one {l : List Bo} : ∀ u ∈ bo4.row l, u.oneCell' = true := kr_one
theorem br_cons {x : Bo} {l : List Bo} : bo4.row (x :: l) = bc x ++ bo4.row l := rfl
theorem bc_len {x : Bo} : (bc x).length = 4 := rfl
theorem bc_one {x : Bo} : ∀ u ∈ bc x, u.oneCell' = true := bo4.one x
theorem drop_one' {l : List Bo} {i : Nat} {d : Bo} (h : l[i]? = some d) : l.drop i = d :: l.drop (i + 1) := by
  have hi := (List.getElem?_eq_some_iff.1 h)
  rw [List.drop_eq_getElem_cons hi.1, hi.2]
/-- The cells vs written over c from place o on. -/
def ovw : Array Value → Nat → List Value → Array Value
  | c, _, [] => c
  | c, o, v :: vs => ovw (c.setIfInBounds o v) (o + 1) vs
theorem ovw_size : ∀ {vs : List Value} {c : Array Value} {o : Nat}, (ovw c o vs).size = c.size
  | [], _, _ => rfl
  | v :: vs, c, o => by rw [ovw, ovw_size]; simp
theorem ovw_list : ∀ {vs b a r : List Value} {c : Array Value} {o : Nat}, c.toList = a ++ (b ++ r) → a.length = o → b.length = vs.length → (ovw c o vs).toList = a ++ (vs ++ r)
  | [], b, a, r, c, o, h, _, hb => by
    have : b = [] := List.eq_nil_of_length_eq_zero hb
    subst this
    exact h
  | v :: vs, x :: b, a, r, c, o, h, ha, hb => by
    have h1 : (c.setIfInBounds o v).toList = (a ++ [v]) ++ (b ++ r) := by
      rw [Array.toList_setIfInBounds, h, ← ha]
      simp
    rw [ovw, ovw_list h1 (by simp [ha]) (by simpa using hb)]
    simp
  | v :: vs, [], _, _, _, _, _, _, hb => by simp at hb
theorem heap_setCells {t : TypeId} {g : Nat} : ∀ {vs : List Value} {o : Nat} {w : World} {cur : Array Value}, w.heap[g]? = some (.cells cur t (0, 0)) → (w.setCells g o vs).heap[g]? = some (.cells (ovw cur o vs) t (0, 0))
  | [], _, _, _, h => h
  | v :: vs, o, w, _, h => heap_setCells (vs := vs) (o := o + 1) (w := w.setCell ⟨g, o, none⟩ v) (heap_setCell_same w g o _ _ _ h)
theorem setCells_size {g : Nat} : ∀ {vs : List Value} {o : Nat} {w : World}, (w.setCells g o vs).heap.size = w.heap.size
  | [], _, _ => rfl
  | v :: vs, o, w => by rw [World.setCells, setCells_size]; simp [World.setCell]
theorem setCells_grown {g : Nat} {vs : List Value} {o : Nat} {w : World} : w.grownBy (w.setCells g o vs) (some g) := by
  induction vs generalizing o w with
  | nil => exact World.grownBy.refl _ _
  | cons v vs ih =>
    have h1 := ih (o := o + 1) (w := w.setCell ⟨g, o, none⟩ v)
    refine ⟨h1.os, h1.tape, h1.output, ?_, fun k hk hne => ?_⟩
    · have := h1.size
      simpa [World.setCells, World.setCell] using this
    · have := h1.block k (by simpa [World.setCell] using hk) hne
      rw [World.setCells, this]
      exact Below.heap_setCell _ _ _ _ (fun e => hne (by subst e; rfl))
section
variable {P : Program}
/-- A copy into a block that is a row of elements of size k: all is read before anything is written. -/
theorem run_copyK (w : World) (k : Nat) (dT sT ty elem : TypeId) (b o dLen dCap : Nat) (a : Addr) (sLen sCap : Nat) (cs : List Value)
    (hu : P.underlying dT = some (.slice elem)) (hs : (P.info? elem).map (·.size) = some k) (hn : cs.length = Nat.min sLen dLen * k)
    (hsrc : ∀ j v, cs[j]? = some v → w.cell? (a.add j) = some v) (hc : ∀ j, j < cs.length → (w.cell? ⟨b, o + j, none⟩).isSome = true) (hf : ∀ j, j < cs.length → w.frozen? ⟨b, o + j, none⟩ = false) (h1 : ∀ v ∈ cs, v.oneCell' = true) :
    (Builtin.copy_ #[dT, sT] ty #[.slice (some ⟨b, o, none⟩) dLen dCap, .slice (some a) sLen sCap]).run P w = .ok (goInt (Nat.min sLen dLen)) (w.setCells b o cs) := by
  have hl := run_loadCells_list (P := P) w a cs hsrc
  have hst := run_storeCells_cells (P := P) b o cs 0 w (by simpa using hc) (by simpa using hf) h1
  rw [Nat.add_zero] at hst
  rw [hn] at hl
  cases hq : P.info? elem with
  | none => simp [hq] at hs
  | some i =>
    have hi : i.size = k := by simpa [hq] using hs
    simp [Builtin.copy_, run_underlying hu, Builtin.lenOf, Builtin.firstCells, sizeOf, typeInfo, hq, hi, hl, hst]
theorem wpList_copyE (w : World) {ops : Array Oper} {rest : List Oper} {o : Oper} {a : Act} {Q : Exit → Act → World → Prop} (hgd : o.guard = none) (d s : Operand) (t t' : TypeId)
    (ho : o.op = .call { callee := .builtin .copy, args := #[d, s], argTypes := #[t, t'] }) (v u : Value) (hd : a.eval d = v) (hs : a.eval s = u) {v' : Value} {w' : World}
    (hr : (Builtin.copy_ #[t, t'] o.type #[v, u]).run P w = .ok v' w') (h : wpList P ops Q rest (a.put o.dst v') w') : wpList P ops Q (o :: rest) a w := by
  refine wpList_plain hgd fun _ hK => ?_
  unfold Oper.wp execOp
  simp only [ho, resolve, invoke, builtin, Sem.run_bind, Sem.run_pure, Result.andThen_ok, List.map_toArray, List.map_cons, List.map_nil, hd, hs, hr]
  exact hK _ _ h
end
theorem infoB : (Try.prog.info? 47).map (fun i => (i.zero, i.size, i.bytes)) = some (some (.agg #[.int .i64 0, .int .i64 0, .int .i64 0, .int .i64 0]), 4, 32) := by kernel_rfl
theorem info4 : (Try.prog.info? 47).map (·.size) = some 4 := by
  obtain ⟨i0, hi, hz0, hz1, hz2⟩ := info_parts infoB
  rw [hi]
  simp [hz1]
theorem slice_lo (g n c k : Nat) (z : Int) (hz : z = (k : Int)) (hk : k ≤ n) (hc : k < c) (wx : World) :
    (Instr.slice 26 (.slice (some ⟨g, 0, none⟩) n c) (some (.int .i64 z)) none none).run Try.prog wx = .ok (.slice (some ⟨g, k * 4, none⟩) (n - k) (c - k)) wx := by
  subst hz
  rw [run_slice_l (P := Try.prog) wx 26 _ n c Try.underlying26 .i64 (k : Int) (by omega) (by omega)]
  have : ¬ c = k := by omega
  simp [sliced, go_sem, this]
theorem slice_hi (g n c k : Nat) (z : Int) (hz : z = (k : Int)) (hk : k ≤ c) (wx : World) :
    (Instr.slice 26 (.slice (some ⟨g, 0, none⟩) n c) none (some (.int .i64 z)) none).run Try.prog wx = .ok (.slice (some ⟨g, 0, none⟩) k c) wx := by
  subst hz
  rw [run_slice_h (P := Try.prog) wx 26 _ n c Try.underlying26 .i64 (k : Int) (by omega) (by omega)]
  simp [sliced, go_sem]
theorem cutB_lo (A : Option Addr) (n c k : Nat) (hk : k ≤ n) (hc : n ≤ c) : ∃ v0, ∀ wx : World, (Instr.slice 26 (.slice A n c) (some (.int .i64 (k : Int))) none none).run Try.prog wx = .ok v0 wx :=
  ⟨sliced A k n c 4, fun wx => by
    rw [run_slice_l (P := Try.prog) wx 26 _ n c Try.underlying26 .i64 (k : Int) (by omega) (by omega)]
    simp [sliced, go_sem]⟩
theorem overlaps_no (w : World) (g vb o lb cb : Nat) (cur : Array Value) (c0 c1 c2 c3 : Value) (hg : w.heap[g]? = some (.cells cur 47 (0, 0))) (hv : w.heap[vb]? = some (.cells #[c0, c1, c2, c3] 47 (0, 0))) (hne : vb ≠ g) (hs : cur.size ≠ 0) :
    (callFunc 46 #[.slice (some ⟨vb, 0, none⟩) 1 1, .slice (some ⟨g, o, none⟩) lb cb]).run Try.prog w = .ok (.value (.bool false)) w := by
  rw [run_callFunc_extern Try.func46 (by kernel_rfl) (by kernel_rfl) (by kernel_rfl) (e := Extern.SlicesOverlaps.overlaps #[26, 26] #[4]) (by kernel_rfl),
    Lib.run_overlaps_apart w 26 4 47 Try.underlying26 4 (fun w => Try.sizeOf47 w) ⟨vb, 0, none⟩ ⟨g, o, none⟩ 1 1 lb cb hne 47 47 4 cur.size
      (by simp [World.shape?, hv]) (by simp [World.shape?, hg]) hs (frozen_of_row w vb 0 _ _ hv) (frozen_of_row w vb 4 _ _ hv)]
  rfl
theorem cellB {w : World} {g j : Nat} {cur : Array Value} (hg : w.heap[g]? = some (.cells cur 47 (0, 0))) : w.cell? ⟨g, j, none⟩ = cur.toList[j]? := by
  rw [cell_of_row w g j cur _ _ hg]
  simp
theorem someB {w : World} {g j : Nat} {cur : Array Value} (hg : w.heap[g]? = some (.cells cur 47 (0, 0))) (hj : j < cur.size) : (w.cell? ⟨g, j, none⟩).isSome = true := by
  rw [cellB hg, List.getElem?_eq_getElem (by simpa using hj)]
  rfl
theorem grown_below {w w' : World} (h : Below w.heap.size w w') (r : Option Nat) : w.grownBy w' r := ⟨h.os, h.tape, h.output, h.size, fun k hk _ => h.block k hk⟩
theorem grown_trans {w w1 w2 : World} {r : Option Nat} (h : w.grownBy w1 r) (h' : w1.grownBy w2 r) : w.grownBy w2 r :=
  ⟨h'.os.trans h.os, h'.tape.trans h.tape, h'.output.trans h.output, Nat.le_trans h.size h'.size, fun k hk hne => (h'.block k (Nat.lt_of_lt_of_le hk h.size) hne).trans (h.block k hk hne)⟩
end Go.Proofs.Ytmmlelmkgnhofaa
