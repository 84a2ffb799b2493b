/-
  Contract of the model's put: a borrow comes to its place. Conditions: at most a hundred thousand borrows.
-/
import Derived.Test.YtmmlelmkgnhofaaMdr
import Derived.Test.YtmmlelmkgnhofaaLde
import Derived.Test.YtmmlelmkgnhofaaHnd
import Derived.Deep.CutRange
namespace Go.Proofs.Ytmmlelmkgnhofaa
open Go.ChangeShapes Go.WideShapes Go.ChangeAt Go.RowKit
set_option linter.unusedVariables false
set_option linter.unusedSimpArgs false
set_option maxHeartbeats 4000000
set_option maxRecDepth 100000

/-- The model's ledger at block p, its list in a row whose block has the colour k. -/
def Mlb (w : World) (c : Nat → Nat) (k p : Nat) (L : List Bo) : Prop := c p = k ∧ ∃ A n cap, w.heap[p]? = some (.cells #[.slice A n cap] 28 (0, 0)) ∧ OwC k bo4 47 w c (.slice A n cap) L
section
variable {w w' w1 w2 : World} {c c' : Nat → Nat} {j k p N : Nat} {L L' A C : List Bo} {o h : Int} {b z : Bo} {t : TypeId} {base : Nat} {v : Value}
theorem Mlb.lt (H : Mlb w c k p L) : p < w.heap.size := by
  obtain ⟨_, A, n, cap, h2, _⟩ := H
  exact (Array.getElem?_eq_some_iff.1 h2).1
theorem Mlb.kept (H : Mlb w c k p L) (hk : Kept c j w w') (hjk : j ≠ k) (hc : ∀ g, g < w.heap.size → c' g = c g) : Mlb w' c' k p L := by
  have hp := H.lt
  obtain ⟨h1, A, n, cap, h2, h3⟩ := H
  exact ⟨(hc p hp).trans h1, A, n, cap, (hk.block p hp (by omega)).trans h2, h3.kept hk hjk hc⟩
theorem Mlb.later (H : Mlb w c k p L) (hb : Below w.heap.size w w1) : Mlb w1 (rc c w.heap.size k) k p L := H.kept (j := k + 1) (Kept.ofBelow hb) (by omega) (fun g hg => rc_old hg)
theorem Mlb.r (H : Mlb w c k p L) : Mlr w p L := by
  obtain ⟨_, A, n, cap, h2, h3⟩ := H
  obtain ⟨A', n', cap', e, hk⟩ := h3.1.shape
  cases e
  exact ⟨A, n, cap, cell_of_row w p 0 _ _ _ h2, hk⟩
/-- What a call leaves that writes the model's ledger of colour k. -/
def MdE (w : World) (c : Nat → Nat) (k p : Nat) (r : Value) (L' : List Bo) (e : Ending) (w' : World) : Prop := e = .returned r ∧ Mlb w' (rc c w.heap.size k) k p L' ∧ Kept c k w w'
/-- A new row is laid into the ledger. -/
theorem Mlb.put {A' : Option Addr} {n' cap' : Nat} (H : Mlb w c k p L) (hb : Below w.heap.size w w1) (ho : OwnK bo4 47 w1 w.heap.size (.slice A' n' cap') L') :
    Mlb (w1.setCell ⟨p, 0, none⟩ (.slice A' n' cap')) (rc c w.heap.size k) k p L' ∧ Kept c k w (w1.setCell ⟨p, 0, none⟩ (.slice A' n' cap')) := by
  have hp := H.lt
  obtain ⟨h1, A, n, cap, h2, h3⟩ := H
  have h4 := (hb.block p hp).trans h2
  refine ⟨⟨by rw [rc_old hp]; exact h1, A', n', cap', heap_setCell_same w1 p 0 _ _ _ h4, OwnK.kept (ho.down (Nat.zero_le _)) (run_setOwn w1 p _) (.inr fun e => ?_), fun g hg => rc_new (ho.ge hg).1⟩, (Kept.ofBelow hb).trans (Kept.ofGrown (run_setOwn w1 p _) (fun g e => by cases e; exact h1))⟩
  have := (ho.ge e).1
  omega
/-- Two neighbours change places. -/
theorem OwnK.swap (H : OwnK bo4 t w base v (A ++ z :: b :: C)) :
    ∃ g cap, v = .slice (some ⟨g, 0, none⟩) (A ++ z :: b :: C).length cap ∧ base ≤ g ∧ g < w.heap.size ∧ OwnK bo4 t ((w.setCells g (A.length * 4) (bc b)).setCells g ((A.length + 1) * 4) (bc z)) base v (A ++ b :: z :: C) ∧
      (∀ i, i < 8 → (w.cell? ⟨g, A.length * 4 + i, none⟩).isSome = true) ∧ (∀ i, w.frozen? ⟨g, i, none⟩ = false) := by
  obtain ⟨g, cap, cur, R, rfl, hb, hgw, hg, hnc, hm, hs, hcur⟩ := H.opn (by simp <;> omega)
  have hcur' : cur.toList = (bo4.row A) ++ (bc z ++ (bc b ++ (bo4.row C ++ R))) := by
    rw [hcur, ← br_app, br_cons, br_cons]
    simp
  have hl : (bo4.row A).length = A.length * 4 := br_len
  have hc1 := ovw_list (vs := bc b) hcur' hl rfl
  have hc2 := ovw_list (vs := bc z) (b := bc b) (a := bo4.row A ++ bc b) (r := bo4.row C ++ R) (o := (A.length + 1) * 4) (by rw [hc1, List.append_assoc]) (by rw [List.length_append, hl, bc_len]; omega) rfl
  refine ⟨g, cap, rfl, hb, hgw, OwnK.shut (R := R) hb (heap_setCells (heap_setCells hg)) (by simpa using hnc) hm (by rw [ovw_size, ovw_size]; exact hs) ?_ (by simp), fun i hi => ?_, fun i => frozen_of_row w g i _ _ hg⟩
  · rw [hc2, ← br_app, br_cons, br_cons]
    simp
  · rw [cell_of_row w g _ _ _ _ hg]
    have : A.length * 4 + i < cur.size := by
      have h1 : cur.size = cap * 4 := hs
      rw [List.length_append, List.length_cons, List.length_cons] at hnc
      omega
    simp [this]
/-- The world behind the exchange of two neighbours. -/
def swp (w : World) (g m : Nat) (z b : Bo) : World := (w.setCells g (m * 4) (bc b)).setCells g ((m + 1) * 4) (bc z)
theorem swp_cells (w : World) (g m : Nat) (z b : Bo) : swp w g m z b =
  ((((((((w.setCell ⟨g, m * 4, none⟩ (.int .i64 b.o)).setCell ⟨g, m * 4 + 1, none⟩ (.int .i64 b.h)).setCell ⟨g, m * 4 + 2, none⟩ (.int .i64 b.m)).setCell ⟨g, m * 4 + 3, none⟩ (.int .i64 b.c)).setCell ⟨g, (m + 1) * 4, none⟩ (.int .i64 z.o)).setCell ⟨g, (m + 1) * 4 + 1, none⟩ (.int .i64 z.h)).setCell ⟨g, (m + 1) * 4 + 2, none⟩ (.int .i64 z.m)).setCell ⟨g, (m + 1) * 4 + 3, none⟩ (.int .i64 z.c)) := by
  unfold swp bc
  simp only [World.setCells, Nat.add_assoc, Nat.reduceAdd]
theorem swp_grown (w : World) (g m : Nat) (z b : Bo) : w.grownBy (swp w g m z b) (some g) := by
  unfold swp
  exact grown_trans setCells_grown setCells_grown
theorem run_storeB {ρ : Operand → Value} {o : Oper} {x y : Operand} {z : Bo} {g q : Nat} {a0 a1 a2 a3 : Value} (h : o.op = .store 47 x y) (hx : ρ x = .pointer (some ⟨g, q, none⟩)) (hy : ρ y = .agg #[.int .i64 z.o, .int .i64 z.h, .int .i64 z.m, .int .i64 z.c]) (w : World)
    (c0 : w.cell? ⟨g, q, none⟩ = some a0) (c1 : w.cell? ⟨g, q + 1, none⟩ = some a1) (c2 : w.cell? ⟨g, q + 2, none⟩ = some a2) (c3 : w.cell? ⟨g, q + 3, none⟩ = some a3)
    (f0 : w.frozen? ⟨g, q, none⟩ = false) (f1 : w.frozen? ⟨g, q + 1, none⟩ = false) (f2 : w.frozen? ⟨g, q + 2, none⟩ = false) (f3 : w.frozen? ⟨g, q + 3, none⟩ = false) :
    (execOp ρ o).run Try.prog w = .ok .skip ((((w.setCell ⟨g, q, none⟩ (.int .i64 z.o)).setCell ⟨g, q + 1, none⟩ (.int .i64 z.h)).setCell ⟨g, q + 2, none⟩ (.int .i64 z.m)).setCell ⟨g, q + 3, none⟩ (.int .i64 z.c)) := by
  unfold execOp
  simp only [h]
  go_simp
/-- The first store leaves the second one's cells. -/
def swq (w : World) (g m : Nat) (b : Bo) : World := (((w.setCell ⟨g, m * 4, none⟩ (.int .i64 b.o)).setCell ⟨g, m * 4 + 1, none⟩ (.int .i64 b.h)).setCell ⟨g, m * 4 + 2, none⟩ (.int .i64 b.m)).setCell ⟨g, m * 4 + 3, none⟩ (.int .i64 b.c)
theorem swq_cell {g m i : Nat} (hi : (m + 1) * 4 ≤ i) {v : Value} (h : w.cell? ⟨g, i, none⟩ = some v) : (swq w g m b).cell? ⟨g, i, none⟩ = some v := by
  unfold swq
  have hne : ∀ j, j < 4 → (⟨g, m * 4 + j, none⟩ : Addr) ≠ ⟨g, i, none⟩ := fun j hj e => by
    simp only [Addr.mk.injEq] at e
    omega
  rw [World.cell?_setCell_other _ _ _ _ (hne 3 (by omega)), World.cell?_setCell_other _ _ _ _ (hne 2 (by omega)), World.cell?_setCell_other _ _ _ _ (hne 1 (by omega)), World.cell?_setCell_other _ _ _ _ (show (⟨g, m * 4, none⟩ : Addr) ≠ ⟨g, i, none⟩ from hne 0 (by omega))]
  exact h
theorem swq_frozen {g m i : Nat} (h : w.frozen? ⟨g, i, none⟩ = false) : (swq w g m b).frozen? ⟨g, i, none⟩ = false := by
  unfold swq
  rw [World.frozen?_setCell, World.frozen?_setCell, World.frozen?_setCell, World.frozen?_setCell]
  exact h
theorem swp_cells' (w : World) (g m : Nat) (z b : Bo) : swp w g m z b = ((((swq w g m b).setCell ⟨g, (m + 1) * 4, none⟩ (.int .i64 z.o)).setCell ⟨g, (m + 1) * 4 + 1, none⟩ (.int .i64 z.h)).setCell ⟨g, (m + 1) * 4 + 2, none⟩ (.int .i64 z.m)).setCell ⟨g, (m + 1) * 4 + 3, none⟩ (.int .i64 z.c) := by
  rw [swp_cells]
  rfl
theorem swp_below {g n cap m : Nat} {w0 : World} {l : List Bo} {B : Nat} (z b : Bo) (hb : Below B w0 w) (H : OwnK bo4 t w B (.slice (some ⟨g, 0, none⟩) n cap) l) (hB : B ≤ w.heap.size) : Below B w0 (swp w g m z b) := by
  have hg : B ≤ g := (H.ge (g := g) rfl).1
  exact hb.grown (swp_grown w g m z b) hB (fun r e => by
    have := Option.some.inj e
    omega)
theorem swap_at {g n cap m : Nat} (hA : A.length = m) (H : OwnK bo4 t w base (.slice (some ⟨g, 0, none⟩) n cap) (A ++ z :: b :: C)) : OwnK bo4 t (swp w g m z b) base (.slice (some ⟨g, 0, none⟩) n cap) (A ++ b :: z :: C) := by
  obtain ⟨g', cap', e1, _, _, hs, _, _⟩ := H.swap
  simp only [Value.slice.injEq, Option.some.injEq, Addr.mk.injEq] at e1
  obtain ⟨⟨e2, _⟩, e3, e4⟩ := e1
  subst e2 e4
  rw [hA] at hs
  unfold swp
  exact hs
/-- What the two stores ask for. -/
theorem swap_facts {g n cap m : Nat} (hA : A.length = m) (H : OwnK bo4 t w base (.slice (some ⟨g, 0, none⟩) n cap) (A ++ z :: b :: C)) :
    w.cell? ⟨g, m * 4, none⟩ = some (.int .i64 z.o) ∧ w.cell? ⟨g, m * 4 + 1, none⟩ = some (.int .i64 z.h) ∧ w.cell? ⟨g, m * 4 + 2, none⟩ = some (.int .i64 z.m) ∧ w.cell? ⟨g, m * 4 + 3, none⟩ = some (.int .i64 z.c) ∧
    w.cell? ⟨g, (m + 1) * 4, none⟩ = some (.int .i64 b.o) ∧ w.cell? ⟨g, (m + 1) * 4 + 1, none⟩ = some (.int .i64 b.h) ∧ w.cell? ⟨g, (m + 1) * 4 + 2, none⟩ = some (.int .i64 b.m) ∧ w.cell? ⟨g, (m + 1) * 4 + 3, none⟩ = some (.int .i64 b.c) ∧
    w.frozen? ⟨g, m * 4, none⟩ = false ∧ w.frozen? ⟨g, m * 4 + 1, none⟩ = false ∧ w.frozen? ⟨g, m * 4 + 2, none⟩ = false ∧ w.frozen? ⟨g, m * 4 + 3, none⟩ = false ∧
    w.frozen? ⟨g, (m + 1) * 4, none⟩ = false ∧ w.frozen? ⟨g, (m + 1) * 4 + 1, none⟩ = false ∧ w.frozen? ⟨g, (m + 1) * 4 + 2, none⟩ = false ∧ w.frozen? ⟨g, (m + 1) * 4 + 3, none⟩ = false := by
  subst hA
  obtain ⟨g', cap', e1, _, _, _, _, hf⟩ := H.swap
  simp only [Value.slice.injEq, Option.some.injEq, Addr.mk.injEq] at e1
  obtain ⟨⟨e2, _⟩, e3, e4⟩ := e1
  subst e2 e4
  obtain ⟨A2, n2, cc2, e5, hk⟩ := H.shape
  cases e5
  have hl := hk.len
  have hzx : (A ++ z :: b :: C)[A.length]? = some z := by simp
  have hbx : (A ++ z :: b :: C)[A.length + 1]? = some b := by simp
  simp only [List.length_append, List.length_cons] at hl
  obtain ⟨b1, o1, x1, hx1, e6, _, p0, p1, p2, p3⟩ := hk.bo (i := A.length) (by omega)
  cases e6
  rw [hzx] at hx1
  obtain rfl := Option.some.inj hx1
  obtain ⟨b1, o1, x1, hx1, e6, _, r0, r1, r2, r3⟩ := hk.bo (i := A.length + 1) (by omega)
  cases e6
  rw [hbx] at hx1
  obtain rfl := Option.some.inj hx1
  rw [Nat.zero_add] at p0 p1 p2 p3 r0 r1 r2 r3
  exact ⟨p0, p1, p2, p3, r0, r1, r2, r3, hf _, hf _, hf _, hf _, hf _, hf _, hf _, hf _⟩
theorem run_box1 {ρ : Operand → Value} {o : Oper} {x : Operand} {z : Bo} (h : o.op = .buildSlice 26 1 #[(0, x)]) (hx : ρ x = boA z) (w : World) :
    (execOp ρ o).run Try.prog w = .ok (.value (.slice (some ⟨w.heap.size, 0, none⟩) 1 1)) (w.alloc (.cells #[.int .i64 z.o, .int .i64 z.h, .int .i64 z.m, .int .i64 z.c] 47)) := run_oneB h hx w
theorem put_any (H : Mlb w c k p L) (hL : Srt L) (hn : L.length ≤ 100000) : Calls Try.prog 37 #[.pointer (some ⟨p, 0, none⟩), boA b] w (MdE w c k p (.tuple #[]) (putL b L)) := by
  obtain ⟨i0, hi0, hz0, hz1, hz2⟩ := info_parts infoB
  have HM := Lib.hid H
  have HS := Lib.hid hL
  have hb0 : Below w.heap.size w (w.alloc (.cells #[.int .i64 b.o, .int .i64 b.h, .int .i64 b.m, .int .i64 b.c] 47)) := (Below.refl _ _).alloc (Nat.le_refl _) _
  have HB0 := Lib.hid hb0
  have HX0 : Hid ((w.alloc (.cells #[.int .i64 b.o, .int .i64 b.h, .int .i64 b.m, .int .i64 b.c] 47)).heap[w.heap.size]? = some (.cells #[.int .i64 b.o, .int .i64 b.h, .int .i64 b.m, .int .i64 b.c] 47 (0, 0))) := Lib.hid (heap_alloc_new w _)
  have hz0' : (w.alloc (.cells #[.int .i64 b.o, .int .i64 b.h, .int .i64 b.m, .int .i64 b.c] 47)).heap.size = w.heap.size + 1 := by simp
  have HWI : Hid (∀ W, Below w.heap.size w W → Calls Try.prog 39 #[.pointer (some ⟨p, 0, none⟩), .int .i64 b.o, .int .i64 b.h] W (MkB W (remL b.o b.h L))) := Lib.hid (fun W hW => without_any (H.r.go hW) hn)
  unfold MkB at HWI
  unfold MdE
  have HI := Lib.hid hi0
  have HZ := Lib.hid hz0
  clear H hL hb0 hi0 hz0
  unfold boA
  go_enter Try.func37, Try.ntmps37
  go_wp2_with fail
  generalize w.alloc (.cells #[.int .i64 b.o, .int .i64 b.h, .int .i64 b.m, .int .i64 b.c] 47) = w0 at *
  go_cut [4] from 6 to 15 (fun s4 wx => ∃ A n cap, s4 = .slice A n cap ∧ Hid (OwnK bo4 47 wx w.heap.size (.slice A n cap) (remL b.o b.h L ++ [b]) ∧ Below w.heap.size w wx))
  case first =>
    have HSS : Hid (∀ W, Below w0.heap.size w0 W → W.cell? ⟨w.heap.size, 0, none⟩ = some (.int .i64 b.o) ∧ W.cell? ⟨w.heap.size, 1, none⟩ = some (.int .i64 b.h) ∧ W.cell? ⟨w.heap.size, 2, none⟩ = some (.int .i64 b.m) ∧ W.cell? ⟨w.heap.size, 3, none⟩ = some (.int .i64 b.c)) := Lib.hid (fun W hW => by
      have h1 := (hW.block w.heap.size (by omega)).trans HX0.out
      exact ⟨cell_of_row W _ 0 _ _ _ h1, cell_of_row W _ 1 _ _ _ h1, cell_of_row W _ 2 _ _ _ h1, cell_of_row W _ 3 _ _ _ h1⟩)
    have HD0 := Lib.hid (below_drewN (Below.refl w0.heap.size w0) 1)
    refine wp_region_headed 8 (fun W => W.cell? ⟨w.heap.size, 0, none⟩ = some (.int .i64 b.o) ∧ W.cell? ⟨w.heap.size, 1, none⟩ = some (.int .i64 b.h) ∧ W.cell? ⟨w.heap.size, 2, none⟩ = some (.int .i64 b.m) ∧ W.cell? ⟨w.heap.size, 3, none⟩ = some (.int .i64 b.c)) (by kernel_rfl) (by kernel_rfl) ?_
    simp only [List.take_succ_cons, List.take_zero, List.drop_succ_cons, List.drop_zero]
    have hHeld := HSS.out _ HD0.out
    refine held_take (i := 0) (d := 6) (v := .pointer (some ⟨p, 0, none⟩)) rfl rfl (by kernel_rfl) (by kernel_rfl) (by kernel_rfl) (fun _ _ _ h => h) (by rfl) (fun W _ => run_move_is (.tmp 0) rfl rfl W) hHeld ?_
    simp only [Act.put, List.setIfInBounds_toArray, List.set_cons_zero, List.set_cons_succ]
    refine held_take (i := 1) (d := 7) (v := .pointer (some ⟨w.heap.size, 0, none⟩)) rfl rfl (by kernel_rfl) (by kernel_rfl) (by kernel_rfl) (fun _ _ _ h => h) (by rfl) (fun W _ => by go_simp) hHeld ?_
    simp only [Act.put, List.setIfInBounds_toArray, List.set_cons_zero, List.set_cons_succ]
    refine held_take (i := 2) (d := 8) (v := .int .i64 b.o) rfl rfl (by kernel_rfl) (by kernel_rfl) (by kernel_rfl) (fun _ _ _ h => h) (by rfl) (fun W hS => by have h1 := hS.1; go_simp) hHeld ?_
    simp only [Act.put, List.setIfInBounds_toArray, List.set_cons_zero, List.set_cons_succ]
    refine held_take (i := 3) (d := 9) (v := .pointer (some ⟨w.heap.size, 1, none⟩)) rfl rfl (by kernel_rfl) (by kernel_rfl) (by kernel_rfl) (fun _ _ _ h => h) (by rfl) (fun W _ => by go_simp) hHeld ?_
    simp only [Act.put, List.setIfInBounds_toArray, List.set_cons_zero, List.set_cons_succ]
    refine held_take (i := 4) (d := 10) (v := .int .i64 b.h) rfl rfl (by kernel_rfl) (by kernel_rfl) (by kernel_rfl) (fun _ _ _ h => h) (by rfl) (fun W hS => by have h1 := hS.2.1; go_simp) hHeld ?_
    simp only [Act.put, List.setIfInBounds_toArray, List.set_cons_zero, List.set_cons_succ]
    refine held_take (i := 6) (d := 12) (v := .agg #[.int .i64 b.o, .int .i64 b.h, .int .i64 b.m, .int .i64 b.c]) rfl rfl (by kernel_rfl) (by kernel_rfl) (by kernel_rfl) (fun _ _ _ h => h) (by rfl) (fun W hS => by obtain ⟨h1, h2, h3, h4⟩ := hS; go_simp) hHeld ?_
    simp only [Act.put, List.setIfInBounds_toArray, List.set_cons_zero, List.set_cons_succ]
    refine held_two (i := 5) (j := 7) (by kernel_rfl) ?_ ?_
    · refine held_callX (d := 11) rfl rfl (by rfl) rfl (by kernel_rfl) Try.func39 (by kernel_rfl) (HWI.out (w0.drewN 1) (Below.then HB0.out HD0.out (Nat.le_refl _))) ?_
      rintro e w1 ⟨v, rfl, ho, hb⟩
      have hb1 : Below w0.heap.size w0 w1 := Below.then HD0.out hb (Nat.le_refl _)
      have HO := Lib.hid ho
      have HB1 := Lib.hid hb1
      refine ⟨_, rfl, HSS.out _ hb1, ?_⟩
      simp only [Act.put, List.setIfInBounds_toArray, List.set_cons_zero, List.set_cons_succ]
      refine held_one (i := 7) (by kernel_rfl) ?_
      refine held_make (d := 13) rfl rfl (by rfl) (by exact run_box1 (x := .tmp 12) (z := b) rfl rfl _) ⟨HSS.out _ (hb1.alloc hb1.size _), ?_⟩
      simp only [Act.put, List.setIfInBounds_toArray, List.set_cons_zero, List.set_cons_succ]
      refine wpAnyH_done (by kernel_rfl) ?_ _
      have HNW := Lib.hid (Kws.new w1 [b] #[.int .i64 b.o, .int .i64 b.h, .int .i64 b.m, .int .i64 b.c] 47 1 rfl rfl (by unfold maxLen; omega) (E := bo4))
      obtain ⟨A1, n1, c1, rfl, hx1⟩ := ho.shape
      clear ho hb hb1 hx1 hHeld HWI HSS
      simp only [atEnd]
      have hzw := HB1.out.size
      go_wp2_with (at_builtin; go_must (refine wpList_appK _ rfl (.tmp 11) (.tmp 13) 26 rfl Try.underlying26 HI.out HZ.out rfl hz1 (by omega) ((HO.out.alloc _).down (B := w.heap.size) (by simp; omega)) rfl HNW.out rfl (by have := List.length_filter_le (fun x => decide (¬ (x.o = b.o ∧ x.h = b.h))) L; unfold remL; omega) (by simp; omega) ?_); intro v3 w3 ho3 hb3 hg3; obtain ⟨A3, n3, c3, rfl, hx3⟩ := ho3.shape)
      have HO3 := Lib.hid ho3
      have HB3 := Lib.hid ((HB0.out.trans ((HB1.out.alloc HB1.out.size (.cells #[.int .i64 b.o, .int .i64 b.h, .int .i64 b.m, .int .i64 b.c] 47)).mono (by omega))).trans hb3)
      clear ho3 hb3 hg3 hx3 HNW HO HB1
      go_wp2_with fail
      go_meet
      exact ⟨A3, n3, c3, rfl, Lib.hid ⟨HO3.out, HB3.out⟩⟩
    · refine held_make (d := 13) rfl rfl (by rfl) (by exact run_box1 (x := .tmp 12) (z := b) rfl rfl _) ⟨HSS.out _ (HD0.out.alloc (Nat.le_refl _) _), ?_⟩
      simp only [Act.put, List.setIfInBounds_toArray, List.set_cons_zero, List.set_cons_succ]
      have HB1 : Hid (Below w0.heap.size w0 ((w0.drewN 1).alloc (.cells #[.int .i64 b.o, .int .i64 b.h, .int .i64 b.m, .int .i64 b.c] 47))) := Lib.hid (HD0.out.alloc (Nat.le_refl _) _)
      have HNW := Lib.hid (Kws.new (w0.drewN 1) [b] #[.int .i64 b.o, .int .i64 b.h, .int .i64 b.m, .int .i64 b.c] 47 1 rfl rfl (by unfold maxLen; omega) (E := bo4))
      refine held_one (i := 5) (by kernel_rfl) ?_
      refine held_callX (d := 11) rfl rfl (by rfl) rfl (by kernel_rfl) Try.func39 (by kernel_rfl) (HWI.out ((w0.drewN 1).alloc (.cells #[.int .i64 b.o, .int .i64 b.h, .int .i64 b.m, .int .i64 b.c] 47)) (Below.then HB0.out HB1.out (Nat.le_refl _))) ?_
      rintro e w1 ⟨v, rfl, ho, hb⟩
      have hb2 : Below w0.heap.size w0 w1 := Below.then HB1.out hb (Nat.le_refl _)
      have HO : Hid (OwnK bo4 47 w1 w.heap.size v (remL b.o b.h L)) := Lib.hid (ho.down (by simp; omega))
      have HB2 := Lib.hid hb2
      have HNW1 := Lib.hid (HNW.out.below (hb.mono (by simp)))
      refine ⟨_, rfl, HSS.out _ hb2, ?_⟩
      simp only [Act.put, List.setIfInBounds_toArray, List.set_cons_zero, List.set_cons_succ]
      refine wpAnyH_done (by kernel_rfl) ?_ _
      obtain ⟨A1, n1, c1, rfl, hx1⟩ := ho.shape
      clear ho hb hb2 hx1 hHeld HWI HSS HNW HB1
      simp only [atEnd]
      have hzw := HB2.out.size
      go_wp2_with (at_builtin; go_must (refine wpList_appK _ rfl (.tmp 11) (.tmp 13) 26 rfl Try.underlying26 HI.out HZ.out rfl hz1 (by omega) HO.out rfl HNW1.out rfl (by have := List.length_filter_le (fun x => decide (¬ (x.o = b.o ∧ x.h = b.h))) L; unfold remL; omega) (by omega) ?_); intro v3 w3 ho3 hb3 hg3; obtain ⟨A3, n3, c3, rfl, hx3⟩ := ho3.shape)
      have HO3 := Lib.hid ho3
      have HB3 := Lib.hid ((HB0.out.trans (HB2.out.mono (by omega))).trans hb3)
      clear ho3 hb3 hg3 hx3 HNW1 HO HB2
      go_wp2_with fail
      go_meet
      exact ⟨A3, n3, c3, rfl, Lib.hid ⟨HO3.out, HB3.out⟩⟩
  case rest =>
    obtain ⟨A1, n1, c1, rfl, hh⟩ := hcut
    obtain ⟨ho, hb⟩ := hh.out
    have hx := ho.shape
    obtain ⟨A1', n1', c1', e1, hk1⟩ := hx
    cases e1
    have hn1 := hk1.len
    have hcap := hk1.cap
    have hsm := hk1.small
    unfold maxLen at hsm
    have hlr : (remL b.o b.h L).length ≤ L.length := List.length_filter_le _ _
    have hN1 : n1 = (remL b.o b.h L).length + 1 := by rw [← hn1, List.length_append]; rfl
    have HO := Lib.hid ho
    have HB := Lib.hid hb
    have HRS : Hid (Srt (remL b.o b.h L)) := Lib.hid (HS.out.rem _ _)
    have HFIN : Hid (∀ A C, A ++ C = remL b.o b.h L → (∀ x ∈ A, Blt x b) → (∀ x ∈ C, Blt b x) → A ++ b :: C = putL b L) := Lib.hid (fun A C e hA hC => by
      have hsr := HS.out.rem b.o b.h
      rw [← e] at hsr
      obtain ⟨q1, q2, q3⟩ := List.pairwise_append.1 hsr
      refine srt_ext (List.pairwise_append.2 ⟨q1, List.pairwise_cons.2 ⟨hC, q2⟩, fun x hx y hy => ?_⟩) (HS.out.put b) (fun x => ?_)
      · rcases List.mem_cons.1 hy with rfl | hy
        · exact hA x hx
        · exact q3 x hx y hy
      · rw [mem_put, ← mem_rem, ← e, List.mem_append, List.mem_cons, List.mem_append]
        constructor
        · rintro (h | rfl | h)
          · exact .inr (.inl h)
          · exact .inl rfl
          · exact .inr (.inr h)
        · rintro (rfl | h | h)
          · exact .inr (.inl rfl)
          · exact .inl h
          · exact .inr (.inr h))
    obtain ⟨R, hR⟩ : ∃ R, remL b.o b.h L = R := ⟨_, rfl⟩
    have HRL := Lib.hid hR
    rw [hR] at hlr hN1 HO HRS HFIN
    subst hN1
    clear hh ho hb hk1 hn1 HWI HX0 hz0' HB0 hR HI HZ
    have hsub : ((R.length : Int) + 1) - 1 = (R.length : Int) := by omega
    go_wp2
    go_loopw [5] (fun kv wr => ∃ j : Nat, j ≤ R.length ∧ kv = .int .i64 j ∧ Hid (∃ A C, A.length = j ∧ A ++ C = R ∧ OwnK bo4 47 wr w.heap.size (.slice A1 (R.length + 1) c1) (A ++ b :: C) ∧ (∀ x ∈ C, Blt b x) ∧ Below w.heap.size w wr)) (fun kv _ => (intOf kv).toNat)
    case atStart => exact ⟨R.length, Nat.le_refl _, by go_num, Lib.hid ⟨R, [], rfl, List.append_nil _, HO.out, by simp, HB.out⟩⟩
    case round =>
      obtain ⟨j, hj, rfl, hh⟩ := hrel
      have HMP : Hid (∃ v, w.heap[p]? = some (.cells #[v] 28 (0, 0))) := Lib.hid (by
        obtain ⟨_, A, n, cap, h2, _⟩ := HM.out
        exact ⟨_, h2⟩)
      obtain ⟨vp, hvp⟩ := HMP.out
      clear HMP
      have HMP := Lib.hid hvp
      clear hvp
      obtain ⟨A, C, hAj, hAC, hor, hC, hbr⟩ := hh.out
      rcases Nat.eq_zero_or_pos j with rfl | hj0
      · obtain rfl : A = [] := List.eq_nil_of_length_eq_zero hAj
        have HE : Hid ([] ++ b :: C = putL b L) := Lib.hid (HFIN.out [] C hAC (by simp) hC)
        clear hh hAj hAC hC hj
        have hpw := (hbr.block p HM.out.lt).trans HMP.out
        have c0 := cell_of_row wr p 0 _ _ _ hpw
        have f0 := frozen_of_row wr p 0 _ _ hpw
        have HPUT := Lib.hid (Mlb.put (L' := putL b L) HM.out hbr (by rw [← HE.out]; exact hor))
        clear hor hbr hpw
        go_wp2
        go_end0
        exact ⟨rfl, HPUT.out⟩
      · obtain ⟨m, rfl⟩ : ∃ m, j = m + 1 := ⟨j - 1, by omega⟩
        obtain ⟨A0, z, rfl⟩ : ∃ A0 z, A = A0 ++ [z] := by
          have hne : A ≠ [] := fun e => by rw [e] at hAj; simp at hAj
          exact ⟨A.dropLast, A.getLast hne, (List.dropLast_concat_getLast hne).symm⟩
        have hA0 : A0.length = m := by rw [List.length_append] at hAj; simpa using hAj
        have hlist : A0 ++ [z] ++ b :: C = A0 ++ z :: b :: C := by simp
        rw [hlist] at hor
        obtain ⟨g, cap, e1, _, hgw, hswap, hsome, hfro⟩ := hor.swap
        injection e1 with e2 e3 e4
        subst e2 e4
        clear e3
        obtain ⟨A2, n2, cc2, e5, hk⟩ := hor.shape
        cases e5
        have hzx : (A0 ++ z :: b :: C)[m]? = some z := by rw [← hA0]; simp
        have hbx : (A0 ++ z :: b :: C)[m + 1]? = some b := by rw [← hA0]; simp
        obtain ⟨b1, o1, x1, hx1, e6, _, p0, p1, p2, p3⟩ := hk.bo (i := m) (by omega)
        cases e6
        rw [hzx] at hx1
        obtain rfl := Option.some.inj hx1
        obtain ⟨b1, o1, x1, hx1, e6, _, r0, r1, r2, r3⟩ := hk.bo (i := m + 1) (by omega)
        cases e6
        rw [hbx] at hx1
        obtain rfl := Option.some.inj hx1
        rw [Nat.zero_add] at p0 p1 p2 p3 r0 r1 r2 r3
        have q0 : ∀ m' : Later wr, m'.val.cell? ⟨g, m * 4, none⟩ = some (.int .i64 z.o) := fun m' => later_old m' p0
        have q1 : ∀ m' : Later wr, m'.val.cell? ⟨g, m * 4 + 1, none⟩ = some (.int .i64 z.h) := fun m' => later_old m' p1
        have q4 : ∀ m' : Later wr, m'.val.cell? ⟨g, (m + 1) * 4, none⟩ = some (.int .i64 b.o) := fun m' => later_old m' r0
        have q5 : ∀ m' : Later wr, m'.val.cell? ⟨g, (m + 1) * 4 + 1, none⟩ = some (.int .i64 b.h) := fun m' => later_old m' r1
        have hsr : Srt (A0 ++ [z]) := by
          have h1 := HRS.out
          rw [← hAC] at h1
          exact (List.pairwise_append.1 h1).1
        have hlow : Blt z b → ∀ x ∈ A0 ++ [z], Blt x b := fun hzb x hx => by
          rcases List.mem_append.1 hx with h1 | h1
          · exact ((List.pairwise_append.1 hsr).2.2 x h1 z (by simp)).trans hzb
          · rw [List.mem_singleton.1 h1]
            exact hzb
        have hzne : ¬ (z.o = b.o ∧ z.h = b.h) := by
          have h1 : z ∈ R := by rw [← hAC]; simp
          have h2 : z ∈ remL b.o b.h L := by rw [HRL.out]; exact h1
          exact (mem_rem.1 h2).2
        have hm1 : (0 : Int) < (m : Int) + 1 := by omega
        have hm2 : (m : Int) + 1 - 1 = (m : Int) := by omega
        have hm3 : (m : Int) < (R.length : Int) + 1 := by omega
        have hm4 : (m : Int) + 1 < (R.length : Int) + 1 := by omega
        have hm5 : m ≤ 100000 := by omega
        have hm7 : ¬ ((m : Int) + 1 < 0) := by omega
        have hm8 : ¬ ((m : Int) < 0) := by omega
        have hm6 : IntKind.i64.wrap (m : Int) = (m : Int) := IntWalk.i64_in _ (by omega)
        rcases Int.lt_trichotomy z.o b.o with h1 | h1 | h1
        · have HE : Hid (A0 ++ z :: b :: C = putL b L) := Lib.hid (by rw [← hlist]; exact HFIN.out _ C hAC (hlow (.inl h1)) hC)
          have hd : decide (z.o < b.o) = true := decide_eq_true h1
          clear hh hAC hC hlow hzne hsr hlist hswap hsome hfro hzx hbx
          go_wp2_with fail
          have HD0 := Lib.hid (below_drewN (Below.refl wr.heap.size wr) 1)
          refine wp_region_later (by kernel_rfl) (by kernel_rfl) ?_
          repeat (go_big_quiet_step (fail))
          refine wpQuiet_nil ?_
          rintro w7 ⟨⟨_, hq⟩, rfl⟩
          have hbr7 := Below.then hbr hq (Nat.le_refl _)
          have hor7 := hor.below hq
          have hpw := (hbr7.block p HM.out.lt).trans HMP.out
          have c0 := cell_of_row w7 p 0 _ _ _ hpw
          have f0 := frozen_of_row w7 p 0 _ _ hpw
          have HPUT := Lib.hid (Mlb.put (L' := putL b L) HM.out hbr7 (by rw [← HE.out]; exact hor7))
          clear hor hbr hpw hbr7 hor7 hq q0 q1 q4 q5 p0 p1 p2 p3 r0 r1 r2 r3 HD0 hk
          go_wp2
          go_end0
          exact ⟨rfl, HPUT.out⟩
        · have hd : decide (z.o < b.o) = false := decide_eq_false (by omega)
          have hd2 : (z.o == b.o) = true := by simpa using h1
          by_cases h2 : z.h < b.h
          · have HE : Hid (A0 ++ z :: b :: C = putL b L) := Lib.hid (by rw [← hlist]; exact HFIN.out _ C hAC (hlow (.inr ⟨h1, h2⟩)) hC)
            have hd3 : decide (z.h < b.h) = true := decide_eq_true h2
            clear hh hAC hC hlow hzne hsr hlist hswap hsome hfro hzx hbx
            go_wp2_with fail
            have HD0 := Lib.hid (below_drewN (Below.refl wr.heap.size wr) 1)
            refine wp_region_later (by kernel_rfl) (by kernel_rfl) ?_
            repeat (go_big_quiet_step (fail))
            refine wpQuiet_nil ?_
            rintro w7 ⟨⟨_, hq⟩, rfl⟩
            have hbr7 := Below.then hbr hq (Nat.le_refl _)
            have hor7 := hor.below hq
            have hpw := (hbr7.block p HM.out.lt).trans HMP.out
            have c0 := cell_of_row w7 p 0 _ _ _ hpw
            have f0 := frozen_of_row w7 p 0 _ _ hpw
            have HPUT := Lib.hid (Mlb.put (L' := putL b L) HM.out hbr7 (by rw [← HE.out]; exact hor7))
            clear hor hbr hpw hbr7 hor7 hq q0 q1 q4 q5 p0 p1 p2 p3 r0 r1 r2 r3 HD0 hk
            go_wp2
            go_end0
            exact ⟨rfl, HPUT.out⟩
          · have HC2 : Hid (A0 ++ z :: C = R ∧ ∀ x ∈ z :: C, Blt b x) := Lib.hid ⟨by rw [← hAC]; simp, fun x hx => by
              rcases List.mem_cons.1 hx with rfl | hx
              · exact .inr ⟨h1.symm, by omega⟩
              · exact hC x hx⟩
            have hd3 : decide (z.h < b.h) = false := decide_eq_false h2
            clear h1 h2
            clear hh hAC hC hlow hzne hsr hlist
            go_wp2_with fail
            have HD0 := Lib.hid (below_drewN (Below.refl wr.heap.size wr) 1)
            refine wp_region_later (by kernel_rfl) (by kernel_rfl) ?_
            repeat (go_big_quiet_step (fail))
            refine wpQuiet_nil ?_
            rintro w7 ⟨⟨_, hq⟩, rfl⟩
            have HOR7 := Lib.hid (hor.below hq)
            have HBR7 := Lib.hid (Below.then hbr hq (Nat.le_refl _))
            clear hq q0 q1 q4 q5 p0 p1 p2 p3 r0 r1 r2 r3 HD0 hk hor hbr hswap hsome hfro hzx hbx
            go_wp2_with fail
            have HOR8 := Lib.hid (HOR7.out.below (below_drewN (Below.refl w7.heap.size w7) 1))
            have HBR8 := Lib.hid (Below.then HBR7.out (below_drewN (Below.refl w7.heap.size w7) 1) (Nat.le_refl _))
            refine wp_region_hand 18 (fun _ => True) (by kernel_rfl) (by kernel_rfl) ?_
            rw [show Array.replicate 18 false = #[false, false, false, false, false, false, false, false, false, false, false, false, false, false, false, false, false, false] from rfl]
            refine held_take (i := 0) (d := 62) (v := .slice (some ⟨g, 0, none⟩) (R.length + 1) c1) rfl rfl (by kernel_rfl) (by kernel_rfl) (by kernel_rfl) (fun _ _ _ h => h) (by rfl) (fun W _ => run_move_is (.tmp 4) rfl rfl W) trivial ?_
            simp only [Act.put, List.setIfInBounds_toArray, List.set_cons_zero, List.set_cons_succ]
            refine held_take (i := 1) (d := 63) (v := .int .i64 ((m : Int) + 1)) rfl rfl (by kernel_rfl) (by kernel_rfl) (by kernel_rfl) (fun _ _ _ h => h) (by rfl) (fun W _ => run_move_is (.tmp 5) rfl rfl W) trivial ?_
            simp only [Act.put, List.setIfInBounds_toArray, List.set_cons_zero, List.set_cons_succ]
            refine held_take (i := 2) (d := 64) (v := .int .i64 (m : Int)) rfl rfl (by kernel_rfl) (by kernel_rfl) (by kernel_rfl) (fun _ _ _ h => h) (by rfl) (fun W _ => by go_simp) trivial ?_
            simp only [Act.put, List.setIfInBounds_toArray, List.set_cons_zero, List.set_cons_succ]
            refine held_take (i := 3) (d := 65) (v := .slice (some ⟨g, 0, none⟩) (R.length + 1) c1) rfl rfl (by kernel_rfl) (by kernel_rfl) (by kernel_rfl) (fun _ _ _ h => h) (by rfl) (fun W _ => run_move_is (.tmp 4) rfl rfl W) trivial ?_
            simp only [Act.put, List.setIfInBounds_toArray, List.set_cons_zero, List.set_cons_succ]
            refine held_take (i := 4) (d := 66) (v := .int .i64 ((m : Int) + 1)) rfl rfl (by kernel_rfl) (by kernel_rfl) (by kernel_rfl) (fun _ _ _ h => h) (by rfl) (fun W _ => run_move_is (.tmp 5) rfl rfl W) trivial ?_
            simp only [Act.put, List.setIfInBounds_toArray, List.set_cons_zero, List.set_cons_succ]
            refine held_take (i := 5) (d := 67) (v := .slice (some ⟨g, 0, none⟩) (R.length + 1) c1) rfl rfl (by kernel_rfl) (by kernel_rfl) (by kernel_rfl) (fun _ _ _ h => h) (by rfl) (fun W _ => run_move_is (.tmp 4) rfl rfl W) trivial ?_
            simp only [Act.put, List.setIfInBounds_toArray, List.set_cons_zero, List.set_cons_succ]
            refine held_take (i := 6) (d := 68) (v := .int .i64 ((m : Int) + 1)) rfl rfl (by kernel_rfl) (by kernel_rfl) (by kernel_rfl) (fun _ _ _ h => h) (by rfl) (fun W _ => run_move_is (.tmp 5) rfl rfl W) trivial ?_
            simp only [Act.put, List.setIfInBounds_toArray, List.set_cons_zero, List.set_cons_succ]
            refine held_take (i := 7) (d := 69) (v := .pointer (some ⟨g, (m + 1) * 4, none⟩)) rfl rfl (by kernel_rfl) (by kernel_rfl) (by kernel_rfl) (fun _ _ _ h => h) (by rfl) (fun W _ => by go_simp) trivial ?_
            simp only [Act.put, List.setIfInBounds_toArray, List.set_cons_zero, List.set_cons_succ]
            refine held_take (i := 9) (d := 71) (v := .slice (some ⟨g, 0, none⟩) (R.length + 1) c1) rfl rfl (by kernel_rfl) (by kernel_rfl) (by kernel_rfl) (fun _ _ _ h => h) (by rfl) (fun W _ => run_move_is (.tmp 4) rfl rfl W) trivial ?_
            simp only [Act.put, List.setIfInBounds_toArray, List.set_cons_zero, List.set_cons_succ]
            refine held_take (i := 10) (d := 72) (v := .int .i64 ((m : Int) + 1)) rfl rfl (by kernel_rfl) (by kernel_rfl) (by kernel_rfl) (fun _ _ _ h => h) (by rfl) (fun W _ => run_move_is (.tmp 5) rfl rfl W) trivial ?_
            simp only [Act.put, List.setIfInBounds_toArray, List.set_cons_zero, List.set_cons_succ]
            refine held_take (i := 11) (d := 73) (v := .int .i64 (m : Int)) rfl rfl (by kernel_rfl) (by kernel_rfl) (by kernel_rfl) (fun _ _ _ h => h) (by rfl) (fun W _ => by go_simp) trivial ?_
            simp only [Act.put, List.setIfInBounds_toArray, List.set_cons_zero, List.set_cons_succ]
            refine held_take (i := 12) (d := 74) (v := .pointer (some ⟨g, m * 4, none⟩)) rfl rfl (by kernel_rfl) (by kernel_rfl) (by kernel_rfl) (fun _ _ _ h => h) (by rfl) (fun W _ => by go_simp) trivial ?_
            simp only [Act.put, List.setIfInBounds_toArray, List.set_cons_zero, List.set_cons_succ]
            change wpAnyH Try.prog .any _ _ _ _ _ _ (w7.drewN 1)
            obtain ⟨u0, u1, u2, u3, u4, u5, u6, u7, v0, v1, v2, v3, v4, v5, v6, v7⟩ := swap_facts hA0 HOR8.out
            have HSX := Lib.hid (swap_at hA0 HOR8.out)
            have HBS := Lib.hid (swp_below (m := m) z b HBR8.out HOR8.out HBR8.out.size)
            clear HOR8 HBR8 HOR7 HBR7
            generalize w7.drewN 1 = w8 at *
            refine held_two (i := 8) (j := 13) (by kernel_rfl) ?_ ?_
            · refine held_make (w' := w8) (d := 70) rfl rfl (by rfl) (v := .agg #[.int .i64 b.o, .int .i64 b.h, .int .i64 b.m, .int .i64 b.c]) (by go_simp) ⟨trivial, ?_⟩
              simp only [Act.put, List.setIfInBounds_toArray, List.set_cons_zero, List.set_cons_succ]
              refine held_one (i := 13) (by kernel_rfl) ?_
              refine held_make (w' := w8) (d := 75) rfl rfl (by rfl) (v := .agg #[.int .i64 z.o, .int .i64 z.h, .int .i64 z.m, .int .i64 z.c]) (by go_simp) ⟨trivial, ?_⟩
              simp only [Act.put, List.setIfInBounds_toArray, List.set_cons_zero, List.set_cons_succ]
              refine held_one (i := 14) (by kernel_rfl) ?_
              refine held_make (w' := w8) (d := 76) rfl rfl (by rfl) (v := .pointer (some ⟨g, m * 4, none⟩)) (by go_simp) ⟨trivial, ?_⟩
              simp only [Act.put, List.setIfInBounds_toArray, List.set_cons_zero, List.set_cons_succ]
              refine held_one (i := 15) (by kernel_rfl) ?_
              refine held_skip rfl rfl (by rfl) (run_storeB (x := .tmp 76) (y := .tmp 70) rfl rfl rfl w8 u0 u1 u2 u3 v0 v1 v2 v3) ⟨trivial, ?_⟩
              change wpAnyH Try.prog .any _ _ _ _ _ _ (swq w8 g m b)
              refine held_one (i := 16) (by kernel_rfl) ?_
              refine held_make (w' := swq w8 g m b) (d := 77) rfl rfl (by rfl) (v := .pointer (some ⟨g, (m + 1) * 4, none⟩)) (by go_simp) ⟨trivial, ?_⟩
              simp only [Act.put, List.setIfInBounds_toArray, List.set_cons_zero, List.set_cons_succ]
              refine held_one (i := 17) (by kernel_rfl) ?_
              refine held_skip rfl rfl (by rfl) (run_storeB (x := .tmp 77) (y := .tmp 75) rfl rfl rfl (swq w8 g m b) (swq_cell (Nat.le_refl _) u4) (swq_cell (by omega) u5) (swq_cell (by omega) u6) (swq_cell (by omega) u7) (swq_frozen v4) (swq_frozen v5) (swq_frozen v6) (swq_frozen v7)) ⟨trivial, ?_⟩
              refine wpAnyH_done (by kernel_rfl) ?_ _
              rw [← swp_cells']
              generalize swp w8 g m z b = w9 at *
              clear u0 u1 u2 u3 u4 u5 u6 u7 v0 v1 v2 v3 v4 v5 v6 v7
              go_wp2
              go_roundw
              case rel => exact ⟨m, by omega, by go_num, Lib.hid ⟨A0, z :: C, hA0, HC2.out.1, HSX.out, HC2.out.2, HBS.out⟩⟩
              case measure => simp [intOf]
            · refine held_make (w' := w8) (d := 75) rfl rfl (by rfl) (v := .agg #[.int .i64 z.o, .int .i64 z.h, .int .i64 z.m, .int .i64 z.c]) (by go_simp) ⟨trivial, ?_⟩
              simp only [Act.put, List.setIfInBounds_toArray, List.set_cons_zero, List.set_cons_succ]
              refine held_one (i := 8) (by kernel_rfl) ?_
              refine held_make (w' := w8) (d := 70) rfl rfl (by rfl) (v := .agg #[.int .i64 b.o, .int .i64 b.h, .int .i64 b.m, .int .i64 b.c]) (by go_simp) ⟨trivial, ?_⟩
              simp only [Act.put, List.setIfInBounds_toArray, List.set_cons_zero, List.set_cons_succ]
              refine held_one (i := 14) (by kernel_rfl) ?_
              refine held_make (w' := w8) (d := 76) rfl rfl (by rfl) (v := .pointer (some ⟨g, m * 4, none⟩)) (by go_simp) ⟨trivial, ?_⟩
              simp only [Act.put, List.setIfInBounds_toArray, List.set_cons_zero, List.set_cons_succ]
              refine held_one (i := 15) (by kernel_rfl) ?_
              refine held_skip rfl rfl (by rfl) (run_storeB (x := .tmp 76) (y := .tmp 70) rfl rfl rfl w8 u0 u1 u2 u3 v0 v1 v2 v3) ⟨trivial, ?_⟩
              change wpAnyH Try.prog .any _ _ _ _ _ _ (swq w8 g m b)
              refine held_one (i := 16) (by kernel_rfl) ?_
              refine held_make (w' := swq w8 g m b) (d := 77) rfl rfl (by rfl) (v := .pointer (some ⟨g, (m + 1) * 4, none⟩)) (by go_simp) ⟨trivial, ?_⟩
              simp only [Act.put, List.setIfInBounds_toArray, List.set_cons_zero, List.set_cons_succ]
              refine held_one (i := 17) (by kernel_rfl) ?_
              refine held_skip rfl rfl (by rfl) (run_storeB (x := .tmp 77) (y := .tmp 75) rfl rfl rfl (swq w8 g m b) (swq_cell (Nat.le_refl _) u4) (swq_cell (by omega) u5) (swq_cell (by omega) u6) (swq_cell (by omega) u7) (swq_frozen v4) (swq_frozen v5) (swq_frozen v6) (swq_frozen v7)) ⟨trivial, ?_⟩
              refine wpAnyH_done (by kernel_rfl) ?_ _
              rw [← swp_cells']
              generalize swp w8 g m z b = w9 at *
              clear u0 u1 u2 u3 u4 u5 u6 u7 v0 v1 v2 v3 v4 v5 v6 v7
              go_wp2
              go_roundw
              case rel => exact ⟨m, by omega, by go_num, Lib.hid ⟨A0, z :: C, hA0, HC2.out.1, HSX.out, HC2.out.2, HBS.out⟩⟩
              case measure => simp [intOf]
        · have hd : decide (z.o < b.o) = false := decide_eq_false (by omega)
          have hd2 : (z.o == b.o) = false := by simp; omega
          have HC2 : Hid (A0 ++ z :: C = R ∧ ∀ x ∈ z :: C, Blt b x) := Lib.hid ⟨by rw [← hAC]; simp, fun x hx => by
            rcases List.mem_cons.1 hx with rfl | hx
            · exact .inl h1
            · exact hC x hx⟩
          clear h1
          clear hh hAC hC hlow hzne hsr hlist
          go_wp2_with fail
          have HD0 := Lib.hid (below_drewN (Below.refl wr.heap.size wr) 1)
          refine wp_region_later (by kernel_rfl) (by kernel_rfl) ?_
          repeat (go_big_quiet_step (fail))
          refine wpQuiet_nil ?_
          rintro w7 ⟨⟨_, hq⟩, rfl⟩
          have HOR7 := Lib.hid (hor.below hq)
          have HBR7 := Lib.hid (Below.then hbr hq (Nat.le_refl _))
          clear hq q0 q1 q4 q5 p0 p1 p2 p3 r0 r1 r2 r3 HD0 hk hor hbr hswap hsome hfro hzx hbx
          go_wp2_with fail
          have HOR8 := Lib.hid (HOR7.out.below (below_drewN (Below.refl w7.heap.size w7) 1))
          have HBR8 := Lib.hid (Below.then HBR7.out (below_drewN (Below.refl w7.heap.size w7) 1) (Nat.le_refl _))
          refine wp_region_hand 18 (fun _ => True) (by kernel_rfl) (by kernel_rfl) ?_
          rw [show Array.replicate 18 false = #[false, false, false, false, false, false, false, false, false, false, false, false, false, false, false, false, false, false] from rfl]
          refine held_take (i := 0) (d := 62) (v := .slice (some ⟨g, 0, none⟩) (R.length + 1) c1) rfl rfl (by kernel_rfl) (by kernel_rfl) (by kernel_rfl) (fun _ _ _ h => h) (by rfl) (fun W _ => run_move_is (.tmp 4) rfl rfl W) trivial ?_
          simp only [Act.put, List.setIfInBounds_toArray, List.set_cons_zero, List.set_cons_succ]
          refine held_take (i := 1) (d := 63) (v := .int .i64 ((m : Int) + 1)) rfl rfl (by kernel_rfl) (by kernel_rfl) (by kernel_rfl) (fun _ _ _ h => h) (by rfl) (fun W _ => run_move_is (.tmp 5) rfl rfl W) trivial ?_
          simp only [Act.put, List.setIfInBounds_toArray, List.set_cons_zero, List.set_cons_succ]
          refine held_take (i := 2) (d := 64) (v := .int .i64 (m : Int)) rfl rfl (by kernel_rfl) (by kernel_rfl) (by kernel_rfl) (fun _ _ _ h => h) (by rfl) (fun W _ => by go_simp) trivial ?_
          simp only [Act.put, List.setIfInBounds_toArray, List.set_cons_zero, List.set_cons_succ]
          refine held_take (i := 3) (d := 65) (v := .slice (some ⟨g, 0, none⟩) (R.length + 1) c1) rfl rfl (by kernel_rfl) (by kernel_rfl) (by kernel_rfl) (fun _ _ _ h => h) (by rfl) (fun W _ => run_move_is (.tmp 4) rfl rfl W) trivial ?_
          simp only [Act.put, List.setIfInBounds_toArray, List.set_cons_zero, List.set_cons_succ]
          refine held_take (i := 4) (d := 66) (v := .int .i64 ((m : Int) + 1)) rfl rfl (by kernel_rfl) (by kernel_rfl) (by kernel_rfl) (fun _ _ _ h => h) (by rfl) (fun W _ => run_move_is (.tmp 5) rfl rfl W) trivial ?_
          simp only [Act.put, List.setIfInBounds_toArray, List.set_cons_zero, List.set_cons_succ]
          refine held_take (i := 5) (d := 67) (v := .slice (some ⟨g, 0, none⟩) (R.length + 1) c1) rfl rfl (by kernel_rfl) (by kernel_rfl) (by kernel_rfl) (fun _ _ _ h => h) (by rfl) (fun W _ => run_move_is (.tmp 4) rfl rfl W) trivial ?_
          simp only [Act.put, List.setIfInBounds_toArray, List.set_cons_zero, List.set_cons_succ]
          refine held_take (i := 6) (d := 68) (v := .int .i64 ((m : Int) + 1)) rfl rfl (by kernel_rfl) (by kernel_rfl) (by kernel_rfl) (fun _ _ _ h => h) (by rfl) (fun W _ => run_move_is (.tmp 5) rfl rfl W) trivial ?_
          simp only [Act.put, List.setIfInBounds_toArray, List.set_cons_zero, List.set_cons_succ]
          refine held_take (i := 7) (d := 69) (v := .pointer (some ⟨g, (m + 1) * 4, none⟩)) rfl rfl (by kernel_rfl) (by kernel_rfl) (by kernel_rfl) (fun _ _ _ h => h) (by rfl) (fun W _ => by go_simp) trivial ?_
          simp only [Act.put, List.setIfInBounds_toArray, List.set_cons_zero, List.set_cons_succ]
          refine held_take (i := 9) (d := 71) (v := .slice (some ⟨g, 0, none⟩) (R.length + 1) c1) rfl rfl (by kernel_rfl) (by kernel_rfl) (by kernel_rfl) (fun _ _ _ h => h) (by rfl) (fun W _ => run_move_is (.tmp 4) rfl rfl W) trivial ?_
          simp only [Act.put, List.setIfInBounds_toArray, List.set_cons_zero, List.set_cons_succ]
          refine held_take (i := 10) (d := 72) (v := .int .i64 ((m : Int) + 1)) rfl rfl (by kernel_rfl) (by kernel_rfl) (by kernel_rfl) (fun _ _ _ h => h) (by rfl) (fun W _ => run_move_is (.tmp 5) rfl rfl W) trivial ?_
          simp only [Act.put, List.setIfInBounds_toArray, List.set_cons_zero, List.set_cons_succ]
          refine held_take (i := 11) (d := 73) (v := .int .i64 (m : Int)) rfl rfl (by kernel_rfl) (by kernel_rfl) (by kernel_rfl) (fun _ _ _ h => h) (by rfl) (fun W _ => by go_simp) trivial ?_
          simp only [Act.put, List.setIfInBounds_toArray, List.set_cons_zero, List.set_cons_succ]
          refine held_take (i := 12) (d := 74) (v := .pointer (some ⟨g, m * 4, none⟩)) rfl rfl (by kernel_rfl) (by kernel_rfl) (by kernel_rfl) (fun _ _ _ h => h) (by rfl) (fun W _ => by go_simp) trivial ?_
          simp only [Act.put, List.setIfInBounds_toArray, List.set_cons_zero, List.set_cons_succ]
          change wpAnyH Try.prog .any _ _ _ _ _ _ (w7.drewN 1)
          obtain ⟨u0, u1, u2, u3, u4, u5, u6, u7, v0, v1, v2, v3, v4, v5, v6, v7⟩ := swap_facts hA0 HOR8.out
          have HSX := Lib.hid (swap_at hA0 HOR8.out)
          have HBS := Lib.hid (swp_below (m := m) z b HBR8.out HOR8.out HBR8.out.size)
          clear HOR8 HBR8 HOR7 HBR7
          generalize w7.drewN 1 = w8 at *
          refine held_two (i := 8) (j := 13) (by kernel_rfl) ?_ ?_
          · refine held_make (w' := w8) (d := 70) rfl rfl (by rfl) (v := .agg #[.int .i64 b.o, .int .i64 b.h, .int .i64 b.m, .int .i64 b.c]) (by go_simp) ⟨trivial, ?_⟩
            simp only [Act.put, List.setIfInBounds_toArray, List.set_cons_zero, List.set_cons_succ]
            refine held_one (i := 13) (by kernel_rfl) ?_
            refine held_make (w' := w8) (d := 75) rfl rfl (by rfl) (v := .agg #[.int .i64 z.o, .int .i64 z.h, .int .i64 z.m, .int .i64 z.c]) (by go_simp) ⟨trivial, ?_⟩
            simp only [Act.put, List.setIfInBounds_toArray, List.set_cons_zero, List.set_cons_succ]
            refine held_one (i := 14) (by kernel_rfl) ?_
            refine held_make (w' := w8) (d := 76) rfl rfl (by rfl) (v := .pointer (some ⟨g, m * 4, none⟩)) (by go_simp) ⟨trivial, ?_⟩
            simp only [Act.put, List.setIfInBounds_toArray, List.set_cons_zero, List.set_cons_succ]
            refine held_one (i := 15) (by kernel_rfl) ?_
            refine held_skip rfl rfl (by rfl) (run_storeB (x := .tmp 76) (y := .tmp 70) rfl rfl rfl w8 u0 u1 u2 u3 v0 v1 v2 v3) ⟨trivial, ?_⟩
            change wpAnyH Try.prog .any _ _ _ _ _ _ (swq w8 g m b)
            refine held_one (i := 16) (by kernel_rfl) ?_
            refine held_make (w' := swq w8 g m b) (d := 77) rfl rfl (by rfl) (v := .pointer (some ⟨g, (m + 1) * 4, none⟩)) (by go_simp) ⟨trivial, ?_⟩
            simp only [Act.put, List.setIfInBounds_toArray, List.set_cons_zero, List.set_cons_succ]
            refine held_one (i := 17) (by kernel_rfl) ?_
            refine held_skip rfl rfl (by rfl) (run_storeB (x := .tmp 77) (y := .tmp 75) rfl rfl rfl (swq w8 g m b) (swq_cell (Nat.le_refl _) u4) (swq_cell (by omega) u5) (swq_cell (by omega) u6) (swq_cell (by omega) u7) (swq_frozen v4) (swq_frozen v5) (swq_frozen v6) (swq_frozen v7)) ⟨trivial, ?_⟩
            refine wpAnyH_done (by kernel_rfl) ?_ _
            rw [← swp_cells']
            generalize swp w8 g m z b = w9 at *
            clear u0 u1 u2 u3 u4 u5 u6 u7 v0 v1 v2 v3 v4 v5 v6 v7
            go_wp2
            go_roundw
            case rel => exact ⟨m, by omega, by go_num, Lib.hid ⟨A0, z :: C, hA0, HC2.out.1, HSX.out, HC2.out.2, HBS.out⟩⟩
            case measure => simp [intOf]
          · refine held_make (w' := w8) (d := 75) rfl rfl (by rfl) (v := .agg #[.int .i64 z.o, .int .i64 z.h, .int .i64 z.m, .int .i64 z.c]) (by go_simp) ⟨trivial, ?_⟩
            simp only [Act.put, List.setIfInBounds_toArray, List.set_cons_zero, List.set_cons_succ]
            refine held_one (i := 8) (by kernel_rfl) ?_
            refine held_make (w' := w8) (d := 70) rfl rfl (by rfl) (v := .agg #[.int .i64 b.o, .int .i64 b.h, .int .i64 b.m, .int .i64 b.c]) (by go_simp) ⟨trivial, ?_⟩
            simp only [Act.put, List.setIfInBounds_toArray, List.set_cons_zero, List.set_cons_succ]
            refine held_one (i := 14) (by kernel_rfl) ?_
            refine held_make (w' := w8) (d := 76) rfl rfl (by rfl) (v := .pointer (some ⟨g, m * 4, none⟩)) (by go_simp) ⟨trivial, ?_⟩
            simp only [Act.put, List.setIfInBounds_toArray, List.set_cons_zero, List.set_cons_succ]
            refine held_one (i := 15) (by kernel_rfl) ?_
            refine held_skip rfl rfl (by rfl) (run_storeB (x := .tmp 76) (y := .tmp 70) rfl rfl rfl w8 u0 u1 u2 u3 v0 v1 v2 v3) ⟨trivial, ?_⟩
            change wpAnyH Try.prog .any _ _ _ _ _ _ (swq w8 g m b)
            refine held_one (i := 16) (by kernel_rfl) ?_
            refine held_make (w' := swq w8 g m b) (d := 77) rfl rfl (by rfl) (v := .pointer (some ⟨g, (m + 1) * 4, none⟩)) (by go_simp) ⟨trivial, ?_⟩
            simp only [Act.put, List.setIfInBounds_toArray, List.set_cons_zero, List.set_cons_succ]
            refine held_one (i := 17) (by kernel_rfl) ?_
            refine held_skip rfl rfl (by rfl) (run_storeB (x := .tmp 77) (y := .tmp 75) rfl rfl rfl (swq w8 g m b) (swq_cell (Nat.le_refl _) u4) (swq_cell (by omega) u5) (swq_cell (by omega) u6) (swq_cell (by omega) u7) (swq_frozen v4) (swq_frozen v5) (swq_frozen v6) (swq_frozen v7)) ⟨trivial, ?_⟩
            refine wpAnyH_done (by kernel_rfl) ?_ _
            rw [← swp_cells']
            generalize swp w8 g m z b = w9 at *
            clear u0 u1 u2 u3 u4 u5 u6 u7 v0 v1 v2 v3 v4 v5 v6 v7
            go_wp2
            go_roundw
            case rel => exact ⟨m, by omega, by go_num, Lib.hid ⟨A0, z :: C, hA0, HC2.out.1, HSX.out, HC2.out.2, HBS.out⟩⟩
            case measure => simp [intOf]
end
end Go.Proofs.Ytmmlelmkgnhofaa
