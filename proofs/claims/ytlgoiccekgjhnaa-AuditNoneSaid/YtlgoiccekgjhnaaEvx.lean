/-
  What the maker's Event returns: an event for which Check returns OK. Conditions: the tape holds numbers of 16 bits, and the place is at most 1000.
-/
import Derived.Test.YtlgoiccekgjhnaaEvm
import Derived.Test.YtlgoiccekgjhnaaHnd
import Derived.Test.YtlgoiccekgjhnaaSus
namespace Go.Proofs.Ytlgoiccekgjhnaa
open Go.ChangeShapes Go.WideShapes Go.ChangeAt Go.RowKit
set_option linter.unusedVariables false
set_option linter.unusedSimpArgs false
set_option maxHeartbeats 8000000
set_option maxRecDepth 100000

/-- The block with the operations. -/
def OpB (W : World) (ob : Nat) : Prop := W.heap[ob]? = some (.cells #[.int .i64 32, .int .i64 1, .int .i64 2, .int .i64 3, .int .i64 4, .int .i64 8, .int .i64 9, .int .i64 10, .int .i64 11, .int .i64 33, .int .i64 7, .int .i64 5, .int .i64 6] 3 (0, 0))
def opL : List Int := [32, 1, 2, 3, 4, 8, 9, 10, 11, 33, 7, 5, 6]
theorem OpB.cell {W : World} {ob : Nat} (h : OpB W ob) {m : Nat} (hm : m < 13) : W.cell? ⟨ob, m, none⟩ = some (.int .i64 (opL.getD m 0)) := by
  rw [cell_of_row W ob m _ _ (0, 0) h]
  have : ∀ k, k < 13 → (#[.int .i64 32, .int .i64 1, .int .i64 2, .int .i64 3, .int .i64 4, .int .i64 8, .int .i64 9, .int .i64 10, .int .i64 11, .int .i64 33, .int .i64 7, .int .i64 5, .int .i64 6] : Array Value)[k]? = some (.int .i64 (opL.getD k 0)) := by
    intro k hk
    obtain rfl | rfl | rfl | rfl | rfl | rfl | rfl | rfl | rfl | rfl | rfl | rfl | rfl : k = 0 ∨ k = 1 ∨ k = 2 ∨ k = 3 ∨ k = 4 ∨ k = 5 ∨ k = 6 ∨ k = 7 ∨ k = 8 ∨ k = 9 ∨ k = 10 ∨ k = 11 ∨ k = 12 := by omega
    all_goals rfl
  exact this m hm
theorem opL_op {m : Nat} (hm : m < 13) : opB (opL.getD m 0) := by
  obtain rfl | rfl | rfl | rfl | rfl | rfl | rfl | rfl | rfl | rfl | rfl | rfl | rfl : m = 0 ∨ m = 1 ∨ m = 2 ∨ m = 3 ∨ m = 4 ∨ m = 5 ∨ m = 6 ∨ m = 7 ∨ m = 8 ∨ m = 9 ∨ m = 10 ∨ m = 11 ∨ m = 12 := by omega
  all_goals decide
/-- The maker on its way: the tape at a place, the result's box, the operations, and what else is known of the memory. -/
structure Mk (b : Nat) (L : List Int) (w : World) (rb ob : Nat) (X : World → Prop) (j : Nat) (W : World) : Prop where
  tape : TS W b L j
  oth : Oth b w W
  res : EvB W rb 0 0 0 0 0
  ops : OpB W ob
  ext : X W
  stab : ∀ W W', Oth b W W' → X W → X W'
  hr : b < rb
  ho : b < ob
  hw : w.heap.size ≤ rb
  hro : rb ≠ ob
  fit : Fit .u16 L
/-- The box of the event. -/
def EvX (b base rb ob eb : Nat) (p o h a e : Int) (W : World) : Prop := EvB W eb p o h a e ∧ b < eb ∧ base ≤ eb ∧ eb ≠ rb ∧ eb ≠ ob
section
variable {b rb ob eb j j' : Nat} {L : List Int} {w W W' : World} {X : World → Prop} {p o h a e : Int}
theorem Mk.step (H : Mk b L w rb ob X j W) (ht : TS W' b L j') (ho : Oth b W W') : Mk b L w rb ob X j' W' :=
  ⟨ht, H.oth.trans ho, H.res.oth ho (by have := H.hr; omega), (ho.block ob (Array.getElem?_eq_some_iff.1 H.ops).1 (by have := H.ho; omega)).trans H.ops, H.stab _ _ ho H.ext, H.stab, H.hr, H.ho, H.hw, H.hro, H.fit⟩
theorem Mk.alloc (H : Mk b L w rb ob X j W) (x : Obj) : Mk b L w rb ob X j (W.alloc x) :=
  H.step (H.tape.go ((Below.refl _ _).alloc (Nat.le_refl _) _)) (Oth.ofBelow ((Below.refl _ _).alloc (Nat.le_refl _) _))
theorem Mk.drew (H : Mk b L w rb ob X j W) : Mk b L w rb ob X j W.drew :=
  H.step (H.tape.go (below_drewN (Below.refl _ W) 1)) (Oth.ofBelow (below_drewN (Below.refl _ W) 1))
theorem EvX.stab : ∀ W W' : World, Oth b W W' → EvX b w.heap.size rb ob eb p o h a e W → EvX b w.heap.size rb ob eb p o h a e W' := fun W W' ho hx =>
  ⟨hx.1.oth ho (by have := hx.2.1; omega), hx.2⟩
theorem Mk.made (H : Mk b L w rb ob (fun _ => True) j W) : Mk b L w rb ob (EvX b w.heap.size rb ob W.heap.size 0 0 0 0 0) j (W.alloc (.cells #[.int .i64 0, .int .i64 0, .int .u64 0, .int .u64 0, .int .i64 0] 27)) := by
  have H' := H.alloc (.cells #[.int .i64 0, .int .i64 0, .int .u64 0, .int .u64 0, .int .i64 0] 27)
  have h1 := H.tape.lt
  have h2 := H.res.lt
  have h3 : ob < W.heap.size := (Array.getElem?_eq_some_iff.1 H.ops).1
  have h4 := H.oth.size
  exact ⟨H'.tape, H'.oth, H'.res, H'.ops, ⟨EvB.new, h1, h4, by omega, by omega⟩, EvX.stab, H.hr, H.ho, H.hw, H.hro, H.fit⟩
end
section
variable {w w' : World} {b t : Nat}
theorem TS.apart {i : Nat} {L : List Int} (h : TS w b L i) {o : Nat} (hb : b < t) (u : Value) : TS (w.setCell ⟨t, o, none⟩ u) b L i := by
  obtain ⟨A, m, c, h1, h2⟩ := h
  exact ⟨A, m, c, (Below.heap_setCell w ⟨t, o, none⟩ u b (by simp only; omega)).trans h1, h2.below ((Below.refl b w).setCell (p := ⟨t, o, none⟩) (by simp only; omega) u)⟩
theorem Oth.far (h : Oth b w w') {o : Nat} (ht : w.heap.size ≤ t) (u : Value) : Oth b w (w'.setCell ⟨t, o, none⟩ u) :=
  ⟨h.os, h.tape, h.output, by have := h.size; simpa [World.setCell] using this, fun k hk hne => (Below.heap_setCell w' ⟨t, o, none⟩ u k (by simp only; omega)).trans (h.block k hk hne)⟩
end
section
variable {b rb ob eb j j' : Nat} {L : List Int} {w W W' : World} {X : World → Prop} {p o h a e : Int}
theorem TS.sets {i t : Nat} {w : World} (h : TS w b L i) (hb : b < t) (p' o' h' a' e' : Int) : TS (((((w.setCell ⟨t, 0, none⟩ (.int .i64 p')).setCell ⟨t, 1, none⟩ (.int .i64 o')).setCell ⟨t, 2, none⟩ (.int .u64 h')).setCell ⟨t, 3, none⟩ (.int .u64 a')).setCell ⟨t, 4, none⟩ (.int .i64 e')) b L i :=
  ((((h.apart (o := 0) hb _).apart (o := 1) hb _).apart (o := 2) hb _).apart (o := 3) hb _).apart (o := 4) hb _
theorem Oth.sets {w w' : World} {t : Nat} (h : Oth b w w') (ht : w.heap.size ≤ t) (p' o' h' a' e' : Int) : Oth b w (((((w'.setCell ⟨t, 0, none⟩ (.int .i64 p')).setCell ⟨t, 1, none⟩ (.int .i64 o')).setCell ⟨t, 2, none⟩ (.int .u64 h')).setCell ⟨t, 3, none⟩ (.int .u64 a')).setCell ⟨t, 4, none⟩ (.int .i64 e')) :=
  ((((h.far (o := 0) ht _).far (o := 1) ht _).far (o := 2) ht _).far (o := 3) ht _).far (o := 4) ht _
theorem EvB.aparts {w : World} {t : Nat} (x : EvB w rb p o h a e) (hne : rb ≠ t) (p' o' h' a' e' : Int) : EvB (((((w.setCell ⟨t, 0, none⟩ (.int .i64 p')).setCell ⟨t, 1, none⟩ (.int .i64 o')).setCell ⟨t, 2, none⟩ (.int .u64 h')).setCell ⟨t, 3, none⟩ (.int .u64 a')).setCell ⟨t, 4, none⟩ (.int .i64 e')) rb p o h a e :=
  ((((x.apart (o' := 0) hne _).apart (o' := 1) hne _).apart (o' := 2) hne _).apart (o' := 3) hne _).apart (o' := 4) hne _
theorem OpB.apart {w : World} {t o : Nat} (x : OpB w ob) (hne : ob ≠ t) (u : Value) : OpB (w.setCell ⟨t, o, none⟩ u) ob := (Below.heap_setCell w ⟨t, o, none⟩ u ob hne).trans x
theorem Mk.sets (H : Mk b L w rb ob (EvX b w.heap.size rb ob eb p o h a e) j W) (p' o' h' a' e' : Int) : Mk b L w rb ob (EvX b w.heap.size rb ob eb p' o' h' a' e') j (((((W.setCell ⟨eb, 0, none⟩ (.int .i64 p')).setCell ⟨eb, 1, none⟩ (.int .i64 o')).setCell ⟨eb, 2, none⟩ (.int .u64 h')).setCell ⟨eb, 3, none⟩ (.int .u64 a')).setCell ⟨eb, 4, none⟩ (.int .i64 e')) := by
  obtain ⟨x1, x2, x3, x4, x5⟩ := H.ext
  refine ⟨H.tape.sets x2 _ _ _ _ _, H.oth.sets x3 _ _ _ _ _, H.res.aparts (fun e => x4 e.symm) _ _ _ _ _, ?_, ⟨x1.set5 _ _ _ _ _, x2, x3, x4, x5⟩, EvX.stab, H.hr, H.ho, H.hw, H.hro, H.fit⟩
  have hne : ob ≠ eb := fun e => x5 e.symm
  exact ((((H.ops.apart (o := 0) hne _).apart (o := 1) hne _).apart (o := 2) hne _).apart (o := 3) hne _).apart (o := 4) hne _
theorem Mk.set4 (H : Mk b L w rb ob (EvX b w.heap.size rb ob eb p o h a e) j W) (e' : Int) : Mk b L w rb ob (EvX b w.heap.size rb ob eb p o h a e') j (W.setCell ⟨eb, 4, none⟩ (.int .i64 e')) := by
  obtain ⟨x1, x2, x3, x4, x5⟩ := H.ext
  exact ⟨H.tape.apart x2 _, H.oth.far x3 _, H.res.apart (fun e => x4 e.symm) _, H.ops.apart (fun e => x5 e.symm) _, ⟨heap_setCell_same _ eb 4 _ _ _ x1, x2, x3, x4, x5⟩, EvX.stab, H.hr, H.ho, H.hw, H.hro, H.fit⟩
theorem Mk.set3 (H : Mk b L w rb ob (EvX b w.heap.size rb ob eb p o h a e) j W) (a' : Int) : Mk b L w rb ob (EvX b w.heap.size rb ob eb p o h a' e) j (W.setCell ⟨eb, 3, none⟩ (.int .u64 a')) := by
  obtain ⟨x1, x2, x3, x4, x5⟩ := H.ext
  exact ⟨H.tape.apart x2 _, H.oth.far x3 _, H.res.apart (fun e => x4 e.symm) _, H.ops.apart (fun e => x5 e.symm) _, ⟨heap_setCell_same _ eb 3 _ _ _ x1, x2, x3, x4, x5⟩, EvX.stab, H.hr, H.ho, H.hw, H.hro, H.fit⟩
theorem Mk.next (H : Mk b L w rb ob X j W) (k : Int) (hj : j ≤ 900000) (hk : 0 < k) (hk2 : k ≤ 65536) :
    Calls Try.prog 34 #[.pointer (some ⟨b, 0, none⟩), .int .i64 k] W fun e W' => ∃ x, 0 ≤ x ∧ x < k ∧ e = .returned (.int .i64 x) ∧ Mk b L w rb ob X (j + 1) W' :=
  (next_ex b j k L W H.tape H.fit (by omega) hk hk2).mono fun e W' hx => by
    obtain ⟨x, h0, h1, he, ht, ho⟩ := hx
    exact ⟨x, h0, h1, he, H.step ht ho⟩
theorem Mk.word (H : Mk b L w rb ob X j W) (hj : j ≤ 900000) :
    Calls Try.prog 35 #[.pointer (some ⟨b, 0, none⟩), .int .u32 1] W fun e W' => ∃ (h : Int) (j' : Nat), 0 ≤ h ∧ h < 18446744073709551616 ∧ j' ≤ j + 6 ∧ e = .returned (.int .u64 h) ∧ Mk b L w rb ob X j' W' :=
  (word_any b j L W H.tape H.fit hj).mono fun e W' hx => by
    obtain ⟨h, j', h0, h1, h2, he, ht, ho⟩ := hx
    exact ⟨h, j', h0, h1, h2, he, H.step ht ho⟩
end
/-- An event for which Check returns OK, and the tape at most twenty places on. -/
def EvM (w : World) (b : Nat) (L : List Int) (i : Nat) (x : Ending) (w' : World) : Prop :=
  ∃ (p o h a e : Int) (j : Nat), (chkV p o e = 0 ∧ p ≤ 3) ∧ (0 ≤ h ∧ h < 18446744073709551616) ∧ (0 ≤ a ∧ a < 18446744073709551616) ∧ j ≤ i + 20 ∧ x = .returned (.agg #[.int .i64 p, .int .i64 o, .int .u64 h, .int .u64 a, .int .i64 e]) ∧ TS w' b L j ∧ Oth b w w'
/-- What is said at the end. -/
theorem Mk.fin {b rb ob eb j i : Nat} {L : List Int} {w W : World} {p o h a e : Int} (H : Mk b L w rb ob (EvX b w.heap.size rb ob eb p o h a e) j W) (hc : chkV p o e = 0 ∧ p ≤ 3) (hh : 0 ≤ h ∧ h < 18446744073709551616) (ha : 0 ≤ a ∧ a < 18446744073709551616) (hj : j ≤ i + 20) :
    EvM w b L i (.returned (.agg #[.int .i64 p, .int .i64 o, .int .u64 h, .int .u64 a, .int .i64 e])) (((((W.setCell ⟨rb, 0, none⟩ (.int .i64 p)).setCell ⟨rb, 1, none⟩ (.int .i64 o)).setCell ⟨rb, 2, none⟩ (.int .u64 h)).setCell ⟨rb, 3, none⟩ (.int .u64 a)).setCell ⟨rb, 4, none⟩ (.int .i64 e)) :=
  ⟨p, o, h, a, e, j, hc, hh, ha, hj, rfl, H.tape.sets H.hr _ _ _ _ _, H.oth.sets H.hw _ _ _ _ _⟩
theorem chk_made {x : Int} {m : Nat} {e : Int} (h0 : 0 ≤ x) (h1 : x < 3) (hm : m < 13) (e0 : 0 ≤ e) (e1 : e < 30) : chkV (1 + x) (opL.getD m 0) e = 0 := chk_is ⟨by omega, by omega, opL_op hm, e0, by omega⟩

theorem event_any (b i : Nat) (L : List Int) (w : World) (h : TS w b L i) (hf : Fit .u16 L) (hi : i ≤ 1000) :
    Calls Try.prog 14 #[.pointer (some ⟨b, 0, none⟩)] w (EvM w b L i) := by
  have hlt := h.lt
  have hb0 : Below w.heap.size w ((w.alloc (.cells #[.int .i64 0, .int .i64 0, .int .u64 0, .int .u64 0, .int .i64 0] 27)).alloc (.cells #[.int .i64 32, .int .i64 1, .int .i64 2, .int .i64 3, .int .i64 4, .int .i64 8, .int .i64 9, .int .i64 10, .int .i64 11, .int .i64 33, .int .i64 7, .int .i64 5, .int .i64 6] 3)) := ((Below.refl _ _).alloc (Nat.le_refl _) _).alloc (by simp) _
  have hs0 : (w.alloc (.cells #[.int .i64 0, .int .i64 0, .int .u64 0, .int .u64 0, .int .i64 0] 27)).heap.size = w.heap.size + 1 := by simp
  have hm0 : Mk b L w w.heap.size (w.heap.size + 1) (fun _ => True) i ((w.alloc (.cells #[.int .i64 0, .int .i64 0, .int .u64 0, .int .u64 0, .int .i64 0] 27)).alloc (.cells #[.int .i64 32, .int .i64 1, .int .i64 2, .int .i64 3, .int .i64 4, .int .i64 8, .int .i64 9, .int .i64 10, .int .i64 11, .int .i64 33, .int .i64 7, .int .i64 5, .int .i64 6] 3)) := by
    refine ⟨h.go hb0, Oth.ofBelow hb0, EvB.zero.go ((Below.refl _ _).alloc (Nat.le_refl _) _), ?_, trivial, fun _ _ _ _ => trivial, hlt, by omega, Nat.le_refl _, by omega, hf⟩
    have := heap_alloc_new (w.alloc (.cells #[.int .i64 0, .int .i64 0, .int .u64 0, .int .u64 0, .int .i64 0] 27)) (.cells #[.int .i64 32, .int .i64 1, .int .i64 2, .int .i64 3, .int .i64 4, .int .i64 8, .int .i64 9, .int .i64 10, .int .i64 11, .int .i64 33, .int .i64 7, .int .i64 5, .int .i64 6] 3)
    rw [hs0] at this
    exact this
  have HM0 := Lib.hid hm0.drew
  clear h hf hb0 hs0 hm0
  go_enter Try.func14, Try.ntmps14
  go_wp2_with fail
  generalize (w.alloc (.cells #[.int .i64 0, .int .i64 0, .int .u64 0, .int .u64 0, .int .i64 0] 27)).alloc (.cells #[.int .i64 32, .int .i64 1, .int .i64 2, .int .i64 3, .int .i64 4, .int .i64 8, .int .i64 9, .int .i64 10, .int .i64 11, .int .i64 33, .int .i64 7, .int .i64 5, .int .i64 6] 3) = wa at *
  generalize hrb : w.heap.size = rb at *
  have HRB : Hid (w.heap.size = rb) := Lib.hid hrb
  clear hrb
  refine wp_region_hand 16 (fun W => OpB W (rb + 1)) (by kernel_rfl) (by kernel_rfl) ?_
  rw [show Array.replicate 16 false = #[false, false, false, false, false, false, false, false, false, false, false, false, false, false, false, false] from rfl]
  have hHeld := HM0.out.ops
  refine held_take (i := 0) (d := 6) (v := .pointer (some ⟨b, 0, none⟩)) rfl rfl (by kernel_rfl) (by kernel_rfl) (by kernel_rfl) (fun _ _ _ h => h) (by rfl) (fun W _ => run_move_is (.tmp 0) rfl rfl W) hHeld ?_
  simp only [Act.put, List.setIfInBounds_toArray, List.set_cons_zero, List.set_cons_succ]
  refine held_take (i := 3) (d := 9) (v := .slice (some ⟨rb + 1, 0, none⟩) 13 13) rfl rfl (by kernel_rfl) (by kernel_rfl) (by kernel_rfl) (fun _ _ _ h => h) (by rfl) (fun W _ => run_move_is (.tmp 3) rfl rfl W) hHeld ?_
  simp only [Act.put, List.setIfInBounds_toArray, List.set_cons_zero, List.set_cons_succ]
  refine held_take (i := 4) (d := 10) (v := .pointer (some ⟨b, 0, none⟩)) rfl rfl (by kernel_rfl) (by kernel_rfl) (by kernel_rfl) (fun _ _ _ h => h) (by rfl) (fun W _ => run_move_is (.tmp 0) rfl rfl W) hHeld ?_
  simp only [Act.put, List.setIfInBounds_toArray, List.set_cons_zero, List.set_cons_succ]
  refine held_take (i := 8) (d := 14) (v := .pointer (some ⟨b, 0, none⟩)) rfl rfl (by kernel_rfl) (by kernel_rfl) (by kernel_rfl) (fun _ _ _ h => h) (by rfl) (fun W _ => run_move_is (.tmp 0) rfl rfl W) hHeld ?_
  simp only [Act.put, List.setIfInBounds_toArray, List.set_cons_zero, List.set_cons_succ]
  refine held_take (i := 10) (d := 16) (v := .pointer (some ⟨b, 0, none⟩)) rfl rfl (by kernel_rfl) (by kernel_rfl) (by kernel_rfl) (fun _ _ _ h => h) (by rfl) (fun W _ => run_move_is (.tmp 0) rfl rfl W) hHeld ?_
  simp only [Act.put, List.setIfInBounds_toArray, List.set_cons_zero, List.set_cons_succ]
  refine held_two (i := 1) (j := 14) (by kernel_rfl) ?_ ?_
  · have HCL := Lib.hid (HM0.out.next 3 (by omega) (by omega) (by omega))
    refine held_callX (d := 7) rfl rfl (by rfl) rfl (by kernel_rfl) Try.func34 (by kernel_rfl) HCL.out ?_
    rintro e w1 ⟨x0, lo0, hi0, rfl, hm⟩
    have HM1 := Lib.hid hm
    refine ⟨_, rfl, ?_⟩
    clear HCL hHeld hm
    have hHeld := HM1.out.ops
    refine ⟨hHeld, ?_⟩
    simp only [Act.put, List.setIfInBounds_toArray, List.set_cons_zero, List.set_cons_succ]
    refine held_take (i := 2) (d := 8) (v := .int .i64 (1 + x0)) rfl rfl (by kernel_rfl) (by kernel_rfl) (by kernel_rfl) (fun _ _ _ h => h) (by rfl) (fun W _ => by have s0 : IntKind.i64.wrap (1 + x0) = 1 + x0 := IntWalk.i64_in _ (by omega); go_simp) hHeld ?_
    simp only [Act.put, List.setIfInBounds_toArray, List.set_cons_zero, List.set_cons_succ]
    refine held_two (i := 5) (j := 14) (by kernel_rfl) ?_ ?_
    · have HCL := Lib.hid (HM1.out.next 13 (by omega) (by omega) (by omega))
      refine held_callX (d := 11) rfl rfl (by rfl) rfl (by kernel_rfl) Try.func34 (by kernel_rfl) HCL.out ?_
      rintro e w2 ⟨x1, lo1, hi1, rfl, hm⟩
      obtain ⟨m, rfl⟩ : ∃ m : Nat, x1 = m := ⟨x1.toNat, by omega⟩
      have hm13 : m < 13 := by omega
      have HM2 := Lib.hid hm
      refine ⟨_, rfl, ?_⟩
      clear HCL hHeld hm
      have hHeld := HM2.out.ops
      refine ⟨hHeld, ?_⟩
      simp only [Act.put, List.setIfInBounds_toArray, List.set_cons_zero, List.set_cons_succ]
      refine held_take (i := 6) (d := 12) (v := .pointer (some ⟨rb + 1, m, none⟩)) rfl rfl (by kernel_rfl) (by kernel_rfl) (by kernel_rfl) (fun _ _ _ h => h) (by rfl) (fun W _ => by go_simp) hHeld ?_
      simp only [Act.put, List.setIfInBounds_toArray, List.set_cons_zero, List.set_cons_succ]
      refine held_take (i := 7) (d := 13) (v := .int .i64 (opL.getD m 0)) rfl rfl (by kernel_rfl) (by kernel_rfl) (by kernel_rfl) (fun _ _ _ h => h) (by rfl) (fun W hS => by have q0 := OpB.cell hS hm13; go_simp) hHeld ?_
      simp only [Act.put, List.setIfInBounds_toArray, List.set_cons_zero, List.set_cons_succ]
      refine held_two (i := 9) (j := 14) (by kernel_rfl) ?_ ?_
      · have HCL := Lib.hid (HM2.out.word (by omega))
        refine held_callX (d := 15) rfl rfl (by rfl) rfl (by kernel_rfl) Try.func35 (by kernel_rfl) HCL.out ?_
        rintro e w3 ⟨hw, jw, hw0, hw1, hjw, rfl, hm⟩
        have HM3 := Lib.hid hm
        refine ⟨_, rfl, ?_⟩
        clear HCL hHeld hm
        have hHeld := HM3.out.ops
        refine ⟨hHeld, ?_⟩
        simp only [Act.put, List.setIfInBounds_toArray, List.set_cons_zero, List.set_cons_succ]
        refine held_two (i := 11) (j := 14) (by kernel_rfl) ?_ ?_
        · have HCL := Lib.hid (HM3.out.next 4 (by omega) (by omega) (by omega))
          refine held_callX (d := 17) rfl rfl (by rfl) rfl (by kernel_rfl) Try.func34 (by kernel_rfl) HCL.out ?_
          rintro e w4 ⟨x3, lo3, hi3, rfl, hm⟩
          have HM4 := Lib.hid hm
          refine ⟨_, rfl, ?_⟩
          clear HCL hHeld hm
          have hHeld := HM4.out.ops
          refine ⟨hHeld, ?_⟩
          simp only [Act.put, List.setIfInBounds_toArray, List.set_cons_zero, List.set_cons_succ]
          refine held_take (i := 12) (d := 18) (v := .int .u64 x3) rfl rfl (by kernel_rfl) (by kernel_rfl) (by kernel_rfl) (fun _ _ _ h => h) (by rfl) (fun W _ => by have s0 : IntKind.u64.wrap x3 = x3 := IntWalk.u64_in _ (by omega); go_simp) hHeld ?_
          simp only [Act.put, List.setIfInBounds_toArray, List.set_cons_zero, List.set_cons_succ]
          refine held_take (i := 13) (d := 19) (v := .agg #[.int .i64 (1 + x0), .int .i64 (opL.getD m 0), .int .u64 hw, .int .u64 x3, .int .i64 0]) rfl rfl (by kernel_rfl) (by kernel_rfl) (by kernel_rfl) (fun _ _ _ h => h) (by rfl) (fun W _ => by go_simp) hHeld ?_
          simp only [Act.put, List.setIfInBounds_toArray, List.set_cons_zero, List.set_cons_succ]
          refine held_one (i := 14) (by kernel_rfl) ?_
          refine held_make (w' := w4.alloc (.cells #[.int .i64 0, .int .i64 0, .int .u64 0, .int .u64 0, .int .i64 0] 27)) (d := 4) rfl rfl (by rfl) (v := .pointer (some ⟨w4.heap.size, 0, none⟩)) (by go_simp) ?_
          have HM5 := Lib.hid HM4.out.made
          clear hHeld
          have hHeld := HM5.out.ops
          refine ⟨hHeld, ?_⟩
          simp only [Act.put, List.setIfInBounds_toArray, List.set_cons_zero, List.set_cons_succ]
          generalize w4.heap.size = eb at *
          generalize w4.alloc (.cells #[.int .i64 0, .int .i64 0, .int .u64 0, .int .u64 0, .int .i64 0] 27) = w5 at *
          obtain ⟨hx, hx1, hx2, hx3, hx4⟩ := HM5.out.ext
          obtain ⟨c0, c1, c2, c3, c4⟩ := hx.cells
          have f0 := hx.fr 0
          have f1 := hx.fr 1
          have f2 := hx.fr 2
          have f3 := hx.fr 3
          have f4 := hx.fr 4
          have hxl := hx.lt
          refine held_one (i := 15) (by kernel_rfl) ?_
          refine held_skip (w' := (((((w5.setCell ⟨eb, 0, none⟩ (.int .i64 (1 + x0))).setCell ⟨eb, 1, none⟩ (.int .i64 (opL.getD m 0))).setCell ⟨eb, 2, none⟩ (.int .u64 hw)).setCell ⟨eb, 3, none⟩ (.int .u64 x3)).setCell ⟨eb, 4, none⟩ (.int .i64 0))) rfl rfl (by rfl) (by go_simp) ?_
          have HMF := Lib.hid (HM5.out.sets (1 + x0) (opL.getD m 0) hw x3 0)
          clear hHeld
          have hHeld := HMF.out.ops
          refine ⟨hHeld, ?_⟩
          refine wpAnyH_done (by kernel_rfl) ?_ _
          clear hHeld c0 c1 c2 c3 c4 f0 f1 f2 f3 f4 hx hx1 hx2 hx3 hx4 hxl
          generalize (((((w5.setCell ⟨eb, 0, none⟩ (.int .i64 (1 + x0))).setCell ⟨eb, 1, none⟩ (.int .i64 (opL.getD m 0))).setCell ⟨eb, 2, none⟩ (.int .u64 hw)).setCell ⟨eb, 3, none⟩ (.int .u64 x3)).setCell ⟨eb, 4, none⟩ (.int .i64 0)) = wf at *
          have HCK : Hid (∀ er : Int, 0 ≤ er → er < 30 → chkV (1 + x0) (opL.getD m 0) er = 0 ∧ 1 + x0 ≤ 3) := Lib.hid (fun er e0 e1 => ⟨chk_made lo0 hi0 hm13 e0 e1, by omega⟩)
          generalize opL.getD m 0 = ov at *
          have HC := Lib.hid (HMF.out.next 3 (by omega) (by omega) (by omega))
          go_wp2_with fail
          refine HC.out.mono ?_
          rintro e u1 ⟨y0, ly0, hy0, rfl, hm⟩
          have HY := Lib.hid hm
          clear hm HC HMF
          by_cases hy : y0 = 0
          · have hyb : (y0 == 0) = true := by simpa using hy
            clear hy
            have HC := Lib.hid (HY.out.next 30 (by omega) (by omega) (by omega))
            go_wp2_with fail
            refine HC.out.mono ?_
            rintro e u2 ⟨y1, ly1, hy1, rfl, hm⟩
            have HYA := Lib.hid hm
            clear hm HC HY
            obtain ⟨hx, hx1, hx2, hx3, hx4⟩ := HYA.out.ext
            obtain ⟨c0, c1, c2, c3, c4⟩ := hx.cells
            have f0 := hx.fr 0
            have f1 := hx.fr 1
            have f2 := hx.fr 2
            have f3 := hx.fr 3
            have f4 := hx.fr 4
            have hxl := hx.lt
            have HYB := Lib.hid (HYA.out.set4 y1)
            have HC9 := Lib.hid (HYB.out.next 9 (by omega) (by omega) (by omega))
            clear HYA hx hx1 hx2 hx3 hx4
            go_wp2_with fail
            clear c0 c1 c2 c3 c4 f0 f1 f2 f3 f4 hxl
            generalize u2.setCell ⟨eb, 4, none⟩ (.int .i64 y1) = u3 at *
            refine HC9.out.mono ?_
            rintro e u4 ⟨z0, lz0, hz0, rfl, hm⟩
            have HZ := Lib.hid hm
            clear hm HC9 HYB
            by_cases hz : z0 = 0
            · have hzb : (z0 == 0) = true := by simpa using hz
              clear hz
              have HCZ := Lib.hid (HZ.out.next 256 (by omega) (by omega) (by omega))
              go_wp2_with fail
              refine HCZ.out.mono ?_
              rintro e u5 ⟨z1, lz1, hz1, rfl, hm⟩
              have HZA := Lib.hid (hm.alloc (.cells #[.int .u8 z1] 5))
              have HSM := Lib.hid (sumR_any _ 1 1 [z1] _ (Bts.new u5 [z1] #[.int .u8 z1] 5 rfl (by simp [maxLen])).row (fun x hx => by simp at hx; subst hx; exact WalkArith.wf_u8 (by omega)) (by omega))
              have hsb := fnv_bd start_bd.1 start_bd.2 [z1]
              unfold Num at HSM
              generalize fnv start [z1] = sm at *
              obtain ⟨sm0, sm1⟩ := hsb
              clear hm HCZ HZ
              go_wp2_with fail
              generalize u5.alloc (.cells #[.int .u8 z1] 5) = u6 at *
              refine HSM.out.mono ?_
              rintro e u7 ⟨rfl, hww⟩
              subst hww
              obtain ⟨yx, yx1, yx2, yx3, yx4⟩ := HZA.out.ext
              obtain ⟨b0, b1, b2, b3, b4⟩ := yx.cells
              have bf := yx.fr 3
              have yxl := yx.lt
              have HZB := Lib.hid (HZA.out.set3 sm)
              clear HSM HZA yx yx1 yx2 yx3 yx4
              obtain ⟨hx, hx1, hx2, hx3, hx4⟩ := HZB.out.ext
              obtain ⟨c0, c1, c2, c3, c4⟩ := hx.cells
              have f0 := hx.fr 0
              have f1 := hx.fr 1
              have f2 := hx.fr 2
              have f3 := hx.fr 3
              have f4 := hx.fr 4
              have hxl := hx.lt
              obtain ⟨d0, d1, d2, d3, d4⟩ := HZB.out.res.cells
              have g0 := HZB.out.res.fr 0
              have g1 := HZB.out.res.fr 1
              have g2 := HZB.out.res.fr 2
              have g3 := HZB.out.res.fr 3
              have g4 := HZB.out.res.fr 4
              have hrl := HZB.out.res.lt
              have HFN := Lib.hid (HZB.out.fin (i := i) (HCK.out y1 (by omega) (by omega)) ⟨hw0, hw1⟩ ⟨by omega, by omega⟩ (by omega))
              obtain ⟨k0, k1, k2, k3, k4⟩ := (HZB.out.res.set5 (1 + x0) ov hw sm y1).cells
              clear HZB HCK
              go_wp2
              exact bodyPost_ret (v := .agg #[.int .i64 (1 + x0), .int .i64 ov, .int .u64 hw, .int .u64 sm, .int .i64 y1]) (by simp [results, Try.results14, go_sem, k0, k1, k2, k3, k4]) rfl HFN.out
            · have hzb : (z0 == 0) = false := by simpa using hz
              clear hz
              obtain ⟨hx, hx1, hx2, hx3, hx4⟩ := HZ.out.ext
              obtain ⟨c0, c1, c2, c3, c4⟩ := hx.cells
              have f0 := hx.fr 0
              have f1 := hx.fr 1
              have f2 := hx.fr 2
              have f3 := hx.fr 3
              have f4 := hx.fr 4
              have hxl := hx.lt
              obtain ⟨d0, d1, d2, d3, d4⟩ := HZ.out.res.cells
              have g0 := HZ.out.res.fr 0
              have g1 := HZ.out.res.fr 1
              have g2 := HZ.out.res.fr 2
              have g3 := HZ.out.res.fr 3
              have g4 := HZ.out.res.fr 4
              have hrl := HZ.out.res.lt
              have HFN := Lib.hid (HZ.out.fin (i := i) (HCK.out y1 (by omega) (by omega)) ⟨hw0, hw1⟩ ⟨by omega, by omega⟩ (by omega))
              obtain ⟨k0, k1, k2, k3, k4⟩ := (HZ.out.res.set5 (1 + x0) ov hw x3 y1).cells
              clear HZ HCK
              go_wp2
              exact bodyPost_ret (v := .agg #[.int .i64 (1 + x0), .int .i64 ov, .int .u64 hw, .int .u64 x3, .int .i64 y1]) (by simp [results, Try.results14, go_sem, k0, k1, k2, k3, k4]) rfl HFN.out
          · have hyb : (y0 == 0) = false := by simpa using hy
            clear hy
            have HC9 := Lib.hid (HY.out.next 9 (by omega) (by omega) (by omega))
            go_wp2_with fail
            refine HC9.out.mono ?_
            rintro e u4 ⟨z0, lz0, hz0, rfl, hm⟩
            have HZ := Lib.hid hm
            clear hm HC9 HY
            by_cases hz : z0 = 0
            · have hzb : (z0 == 0) = true := by simpa using hz
              clear hz
              have HCZ := Lib.hid (HZ.out.next 256 (by omega) (by omega) (by omega))
              go_wp2_with fail
              refine HCZ.out.mono ?_
              rintro e u5 ⟨z1, lz1, hz1, rfl, hm⟩
              have HZA := Lib.hid (hm.alloc (.cells #[.int .u8 z1] 5))
              have HSM := Lib.hid (sumR_any _ 1 1 [z1] _ (Bts.new u5 [z1] #[.int .u8 z1] 5 rfl (by simp [maxLen])).row (fun x hx => by simp at hx; subst hx; exact WalkArith.wf_u8 (by omega)) (by omega))
              have hsb := fnv_bd start_bd.1 start_bd.2 [z1]
              unfold Num at HSM
              generalize fnv start [z1] = sm at *
              obtain ⟨sm0, sm1⟩ := hsb
              clear hm HCZ HZ
              go_wp2_with fail
              generalize u5.alloc (.cells #[.int .u8 z1] 5) = u6 at *
              refine HSM.out.mono ?_
              rintro e u7 ⟨rfl, hww⟩
              subst hww
              obtain ⟨yx, yx1, yx2, yx3, yx4⟩ := HZA.out.ext
              obtain ⟨b0, b1, b2, b3, b4⟩ := yx.cells
              have bf := yx.fr 3
              have yxl := yx.lt
              have HZB := Lib.hid (HZA.out.set3 sm)
              clear HSM HZA yx yx1 yx2 yx3 yx4
              obtain ⟨hx, hx1, hx2, hx3, hx4⟩ := HZB.out.ext
              obtain ⟨c0, c1, c2, c3, c4⟩ := hx.cells
              have f0 := hx.fr 0
              have f1 := hx.fr 1
              have f2 := hx.fr 2
              have f3 := hx.fr 3
              have f4 := hx.fr 4
              have hxl := hx.lt
              obtain ⟨d0, d1, d2, d3, d4⟩ := HZB.out.res.cells
              have g0 := HZB.out.res.fr 0
              have g1 := HZB.out.res.fr 1
              have g2 := HZB.out.res.fr 2
              have g3 := HZB.out.res.fr 3
              have g4 := HZB.out.res.fr 4
              have hrl := HZB.out.res.lt
              have HFN := Lib.hid (HZB.out.fin (i := i) (HCK.out 0 (by omega) (by omega)) ⟨hw0, hw1⟩ ⟨by omega, by omega⟩ (by omega))
              obtain ⟨k0, k1, k2, k3, k4⟩ := (HZB.out.res.set5 (1 + x0) ov hw sm 0).cells
              clear HZB HCK
              go_wp2
              exact bodyPost_ret (v := .agg #[.int .i64 (1 + x0), .int .i64 ov, .int .u64 hw, .int .u64 sm, .int .i64 0]) (by simp [results, Try.results14, go_sem, k0, k1, k2, k3, k4]) rfl HFN.out
            · have hzb : (z0 == 0) = false := by simpa using hz
              clear hz
              obtain ⟨hx, hx1, hx2, hx3, hx4⟩ := HZ.out.ext
              obtain ⟨c0, c1, c2, c3, c4⟩ := hx.cells
              have f0 := hx.fr 0
              have f1 := hx.fr 1
              have f2 := hx.fr 2
              have f3 := hx.fr 3
              have f4 := hx.fr 4
              have hxl := hx.lt
              obtain ⟨d0, d1, d2, d3, d4⟩ := HZ.out.res.cells
              have g0 := HZ.out.res.fr 0
              have g1 := HZ.out.res.fr 1
              have g2 := HZ.out.res.fr 2
              have g3 := HZ.out.res.fr 3
              have g4 := HZ.out.res.fr 4
              have hrl := HZ.out.res.lt
              have HFN := Lib.hid (HZ.out.fin (i := i) (HCK.out 0 (by omega) (by omega)) ⟨hw0, hw1⟩ ⟨by omega, by omega⟩ (by omega))
              obtain ⟨k0, k1, k2, k3, k4⟩ := (HZ.out.res.set5 (1 + x0) ov hw x3 0).cells
              clear HZ HCK
              go_wp2
              exact bodyPost_ret (v := .agg #[.int .i64 (1 + x0), .int .i64 ov, .int .u64 hw, .int .u64 x3, .int .i64 0]) (by simp [results, Try.results14, go_sem, k0, k1, k2, k3, k4]) rfl HFN.out
        · refine held_make (w' := w3.alloc (.cells #[.int .i64 0, .int .i64 0, .int .u64 0, .int .u64 0, .int .i64 0] 27)) (d := 4) rfl rfl (by rfl) (v := .pointer (some ⟨w3.heap.size, 0, none⟩)) (by go_simp) ?_
          have HM4 := Lib.hid HM3.out.made
          clear hHeld
          have hHeld := HM4.out.ops
          refine ⟨hHeld, ?_⟩
          simp only [Act.put, List.setIfInBounds_toArray, List.set_cons_zero, List.set_cons_succ]
          generalize w3.heap.size = eb at *
          generalize w3.alloc (.cells #[.int .i64 0, .int .i64 0, .int .u64 0, .int .u64 0, .int .i64 0] 27) = w4 at *
          refine held_one (i := 11) (by kernel_rfl) ?_
          have HCL := Lib.hid (HM4.out.next 4 (by omega) (by omega) (by omega))
          refine held_callX (d := 17) rfl rfl (by rfl) rfl (by kernel_rfl) Try.func34 (by kernel_rfl) HCL.out ?_
          rintro e w5 ⟨x3, lo3, hi3, rfl, hm⟩
          have HM5 := Lib.hid hm
          refine ⟨_, rfl, ?_⟩
          clear HCL hHeld hm
          have hHeld := HM5.out.ops
          refine ⟨hHeld, ?_⟩
          simp only [Act.put, List.setIfInBounds_toArray, List.set_cons_zero, List.set_cons_succ]
          refine held_take (i := 12) (d := 18) (v := .int .u64 x3) rfl rfl (by kernel_rfl) (by kernel_rfl) (by kernel_rfl) (fun _ _ _ h => h) (by rfl) (fun W _ => by have s0 : IntKind.u64.wrap x3 = x3 := IntWalk.u64_in _ (by omega); go_simp) hHeld ?_
          simp only [Act.put, List.setIfInBounds_toArray, List.set_cons_zero, List.set_cons_succ]
          refine held_take (i := 13) (d := 19) (v := .agg #[.int .i64 (1 + x0), .int .i64 (opL.getD m 0), .int .u64 hw, .int .u64 x3, .int .i64 0]) rfl rfl (by kernel_rfl) (by kernel_rfl) (by kernel_rfl) (fun _ _ _ h => h) (by rfl) (fun W _ => by go_simp) hHeld ?_
          simp only [Act.put, List.setIfInBounds_toArray, List.set_cons_zero, List.set_cons_succ]
          obtain ⟨hx, hx1, hx2, hx3, hx4⟩ := HM5.out.ext
          obtain ⟨c0, c1, c2, c3, c4⟩ := hx.cells
          have f0 := hx.fr 0
          have f1 := hx.fr 1
          have f2 := hx.fr 2
          have f3 := hx.fr 3
          have f4 := hx.fr 4
          have hxl := hx.lt
          refine held_one (i := 15) (by kernel_rfl) ?_
          refine held_skip (w' := (((((w5.setCell ⟨eb, 0, none⟩ (.int .i64 (1 + x0))).setCell ⟨eb, 1, none⟩ (.int .i64 (opL.getD m 0))).setCell ⟨eb, 2, none⟩ (.int .u64 hw)).setCell ⟨eb, 3, none⟩ (.int .u64 x3)).setCell ⟨eb, 4, none⟩ (.int .i64 0))) rfl rfl (by rfl) (by go_simp) ?_
          have HMF := Lib.hid (HM5.out.sets (1 + x0) (opL.getD m 0) hw x3 0)
          clear hHeld
          have hHeld := HMF.out.ops
          refine ⟨hHeld, ?_⟩
          refine wpAnyH_done (by kernel_rfl) ?_ _
          clear hHeld c0 c1 c2 c3 c4 f0 f1 f2 f3 f4 hx hx1 hx2 hx3 hx4 hxl
          generalize (((((w5.setCell ⟨eb, 0, none⟩ (.int .i64 (1 + x0))).setCell ⟨eb, 1, none⟩ (.int .i64 (opL.getD m 0))).setCell ⟨eb, 2, none⟩ (.int .u64 hw)).setCell ⟨eb, 3, none⟩ (.int .u64 x3)).setCell ⟨eb, 4, none⟩ (.int .i64 0)) = wf at *
          have HCK : Hid (∀ er : Int, 0 ≤ er → er < 30 → chkV (1 + x0) (opL.getD m 0) er = 0 ∧ 1 + x0 ≤ 3) := Lib.hid (fun er e0 e1 => ⟨chk_made lo0 hi0 hm13 e0 e1, by omega⟩)
          generalize opL.getD m 0 = ov at *
          have HC := Lib.hid (HMF.out.next 3 (by omega) (by omega) (by omega))
          go_wp2_with fail
          refine HC.out.mono ?_
          rintro e u1 ⟨y0, ly0, hy0, rfl, hm⟩
          have HY := Lib.hid hm
          clear hm HC HMF
          by_cases hy : y0 = 0
          · have hyb : (y0 == 0) = true := by simpa using hy
            clear hy
            have HC := Lib.hid (HY.out.next 30 (by omega) (by omega) (by omega))
            go_wp2_with fail
            refine HC.out.mono ?_
            rintro e u2 ⟨y1, ly1, hy1, rfl, hm⟩
            have HYA := Lib.hid hm
            clear hm HC HY
            obtain ⟨hx, hx1, hx2, hx3, hx4⟩ := HYA.out.ext
            obtain ⟨c0, c1, c2, c3, c4⟩ := hx.cells
            have f0 := hx.fr 0
            have f1 := hx.fr 1
            have f2 := hx.fr 2
            have f3 := hx.fr 3
            have f4 := hx.fr 4
            have hxl := hx.lt
            have HYB := Lib.hid (HYA.out.set4 y1)
            have HC9 := Lib.hid (HYB.out.next 9 (by omega) (by omega) (by omega))
            clear HYA hx hx1 hx2 hx3 hx4
            go_wp2_with fail
            clear c0 c1 c2 c3 c4 f0 f1 f2 f3 f4 hxl
            generalize u2.setCell ⟨eb, 4, none⟩ (.int .i64 y1) = u3 at *
            refine HC9.out.mono ?_
            rintro e u4 ⟨z0, lz0, hz0, rfl, hm⟩
            have HZ := Lib.hid hm
            clear hm HC9 HYB
            by_cases hz : z0 = 0
            · have hzb : (z0 == 0) = true := by simpa using hz
              clear hz
              have HCZ := Lib.hid (HZ.out.next 256 (by omega) (by omega) (by omega))
              go_wp2_with fail
              refine HCZ.out.mono ?_
              rintro e u5 ⟨z1, lz1, hz1, rfl, hm⟩
              have HZA := Lib.hid (hm.alloc (.cells #[.int .u8 z1] 5))
              have HSM := Lib.hid (sumR_any _ 1 1 [z1] _ (Bts.new u5 [z1] #[.int .u8 z1] 5 rfl (by simp [maxLen])).row (fun x hx => by simp at hx; subst hx; exact WalkArith.wf_u8 (by omega)) (by omega))
              have hsb := fnv_bd start_bd.1 start_bd.2 [z1]
              unfold Num at HSM
              generalize fnv start [z1] = sm at *
              obtain ⟨sm0, sm1⟩ := hsb
              clear hm HCZ HZ
              go_wp2_with fail
              generalize u5.alloc (.cells #[.int .u8 z1] 5) = u6 at *
              refine HSM.out.mono ?_
              rintro e u7 ⟨rfl, hww⟩
              subst hww
              obtain ⟨yx, yx1, yx2, yx3, yx4⟩ := HZA.out.ext
              obtain ⟨b0, b1, b2, b3, b4⟩ := yx.cells
              have bf := yx.fr 3
              have yxl := yx.lt
              have HZB := Lib.hid (HZA.out.set3 sm)
              clear HSM HZA yx yx1 yx2 yx3 yx4
              obtain ⟨hx, hx1, hx2, hx3, hx4⟩ := HZB.out.ext
              obtain ⟨c0, c1, c2, c3, c4⟩ := hx.cells
              have f0 := hx.fr 0
              have f1 := hx.fr 1
              have f2 := hx.fr 2
              have f3 := hx.fr 3
              have f4 := hx.fr 4
              have hxl := hx.lt
              obtain ⟨d0, d1, d2, d3, d4⟩ := HZB.out.res.cells
              have g0 := HZB.out.res.fr 0
              have g1 := HZB.out.res.fr 1
              have g2 := HZB.out.res.fr 2
              have g3 := HZB.out.res.fr 3
              have g4 := HZB.out.res.fr 4
              have hrl := HZB.out.res.lt
              have HFN := Lib.hid (HZB.out.fin (i := i) (HCK.out y1 (by omega) (by omega)) ⟨hw0, hw1⟩ ⟨by omega, by omega⟩ (by omega))
              obtain ⟨k0, k1, k2, k3, k4⟩ := (HZB.out.res.set5 (1 + x0) ov hw sm y1).cells
              clear HZB HCK
              go_wp2
              exact bodyPost_ret (v := .agg #[.int .i64 (1 + x0), .int .i64 ov, .int .u64 hw, .int .u64 sm, .int .i64 y1]) (by simp [results, Try.results14, go_sem, k0, k1, k2, k3, k4]) rfl HFN.out
            · have hzb : (z0 == 0) = false := by simpa using hz
              clear hz
              obtain ⟨hx, hx1, hx2, hx3, hx4⟩ := HZ.out.ext
              obtain ⟨c0, c1, c2, c3, c4⟩ := hx.cells
              have f0 := hx.fr 0
              have f1 := hx.fr 1
              have f2 := hx.fr 2
              have f3 := hx.fr 3
              have f4 := hx.fr 4
              have hxl := hx.lt
              obtain ⟨d0, d1, d2, d3, d4⟩ := HZ.out.res.cells
              have g0 := HZ.out.res.fr 0
              have g1 := HZ.out.res.fr 1
              have g2 := HZ.out.res.fr 2
              have g3 := HZ.out.res.fr 3
              have g4 := HZ.out.res.fr 4
              have hrl := HZ.out.res.lt
              have HFN := Lib.hid (HZ.out.fin (i := i) (HCK.out y1 (by omega) (by omega)) ⟨hw0, hw1⟩ ⟨by omega, by omega⟩ (by omega))
              obtain ⟨k0, k1, k2, k3, k4⟩ := (HZ.out.res.set5 (1 + x0) ov hw x3 y1).cells
              clear HZ HCK
              go_wp2
              exact bodyPost_ret (v := .agg #[.int .i64 (1 + x0), .int .i64 ov, .int .u64 hw, .int .u64 x3, .int .i64 y1]) (by simp [results, Try.results14, go_sem, k0, k1, k2, k3, k4]) rfl HFN.out
          · have hyb : (y0 == 0) = false := by simpa using hy
            clear hy
            have HC9 := Lib.hid (HY.out.next 9 (by omega) (by omega) (by omega))
            go_wp2_with fail
            refine HC9.out.mono ?_
            rintro e u4 ⟨z0, lz0, hz0, rfl, hm⟩
            have HZ := Lib.hid hm
            clear hm HC9 HY
            by_cases hz : z0 = 0
            · have hzb : (z0 == 0) = true := by simpa using hz
              clear hz
              have HCZ := Lib.hid (HZ.out.next 256 (by omega) (by omega) (by omega))
              go_wp2_with fail
              refine HCZ.out.mono ?_
              rintro e u5 ⟨z1, lz1, hz1, rfl, hm⟩
              have HZA := Lib.hid (hm.alloc (.cells #[.int .u8 z1] 5))
              have HSM := Lib.hid (sumR_any _ 1 1 [z1] _ (Bts.new u5 [z1] #[.int .u8 z1] 5 rfl (by simp [maxLen])).row (fun x hx => by simp at hx; subst hx; exact WalkArith.wf_u8 (by omega)) (by omega))
              have hsb := fnv_bd start_bd.1 start_bd.2 [z1]
              unfold Num at HSM
              generalize fnv start [z1] = sm at *
              obtain ⟨sm0, sm1⟩ := hsb
              clear hm HCZ HZ
              go_wp2_with fail
              generalize u5.alloc (.cells #[.int .u8 z1] 5) = u6 at *
              refine HSM.out.mono ?_
              rintro e u7 ⟨rfl, hww⟩
              subst hww
              obtain ⟨yx, yx1, yx2, yx3, yx4⟩ := HZA.out.ext
              obtain ⟨b0, b1, b2, b3, b4⟩ := yx.cells
              have bf := yx.fr 3
              have yxl := yx.lt
              have HZB := Lib.hid (HZA.out.set3 sm)
              clear HSM HZA yx yx1 yx2 yx3 yx4
              obtain ⟨hx, hx1, hx2, hx3, hx4⟩ := HZB.out.ext
              obtain ⟨c0, c1, c2, c3, c4⟩ := hx.cells
              have f0 := hx.fr 0
              have f1 := hx.fr 1
              have f2 := hx.fr 2
              have f3 := hx.fr 3
              have f4 := hx.fr 4
              have hxl := hx.lt
              obtain ⟨d0, d1, d2, d3, d4⟩ := HZB.out.res.cells
              have g0 := HZB.out.res.fr 0
              have g1 := HZB.out.res.fr 1
              have g2 := HZB.out.res.fr 2
              have g3 := HZB.out.res.fr 3
              have g4 := HZB.out.res.fr 4
              have hrl := HZB.out.res.lt
              have HFN := Lib.hid (HZB.out.fin (i := i) (HCK.out 0 (by omega) (by omega)) ⟨hw0, hw1⟩ ⟨by omega, by omega⟩ (by omega))
              obtain ⟨k0, k1, k2, k3, k4⟩ := (HZB.out.res.set5 (1 + x0) ov hw sm 0).cells
              clear HZB HCK
              go_wp2
              exact bodyPost_ret (v := .agg #[.int .i64 (1 + x0), .int .i64 ov, .int .u64 hw, .int .u64 sm, .int .i64 0]) (by simp [results, Try.results14, go_sem, k0, k1, k2, k3, k4]) rfl HFN.out
            · have hzb : (z0 == 0) = false := by simpa using hz
              clear hz
              obtain ⟨hx, hx1, hx2, hx3, hx4⟩ := HZ.out.ext
              obtain ⟨c0, c1, c2, c3, c4⟩ := hx.cells
              have f0 := hx.fr 0
              have f1 := hx.fr 1
              have f2 := hx.fr 2
              have f3 := hx.fr 3
              have f4 := hx.fr 4
              have hxl := hx.lt
              obtain ⟨d0, d1, d2, d3, d4⟩ := HZ.out.res.cells
              have g0 := HZ.out.res.fr 0
              have g1 := HZ.out.res.fr 1
              have g2 := HZ.out.res.fr 2
              have g3 := HZ.out.res.fr 3
              have g4 := HZ.out.res.fr 4
              have hrl := HZ.out.res.lt
              have HFN := Lib.hid (HZ.out.fin (i := i) (HCK.out 0 (by omega) (by omega)) ⟨hw0, hw1⟩ ⟨by omega, by omega⟩ (by omega))
              obtain ⟨k0, k1, k2, k3, k4⟩ := (HZ.out.res.set5 (1 + x0) ov hw x3 0).cells
              clear HZ HCK
              go_wp2
              exact bodyPost_ret (v := .agg #[.int .i64 (1 + x0), .int .i64 ov, .int .u64 hw, .int .u64 x3, .int .i64 0]) (by simp [results, Try.results14, go_sem, k0, k1, k2, k3, k4]) rfl HFN.out
      · refine held_make (w' := w2.alloc (.cells #[.int .i64 0, .int .i64 0, .int .u64 0, .int .u64 0, .int .i64 0] 27)) (d := 4) rfl rfl (by rfl) (v := .pointer (some ⟨w2.heap.size, 0, none⟩)) (by go_simp) ?_
        have HM3 := Lib.hid HM2.out.made
        clear hHeld
        have hHeld := HM3.out.ops
        refine ⟨hHeld, ?_⟩
        simp only [Act.put, List.setIfInBounds_toArray, List.set_cons_zero, List.set_cons_succ]
        generalize w2.heap.size = eb at *
        generalize w2.alloc (.cells #[.int .i64 0, .int .i64 0, .int .u64 0, .int .u64 0, .int .i64 0] 27) = w3 at *
        refine held_one (i := 9) (by kernel_rfl) ?_
        have HCL := Lib.hid (HM3.out.word (by omega))
        refine held_callX (d := 15) rfl rfl (by rfl) rfl (by kernel_rfl) Try.func35 (by kernel_rfl) HCL.out ?_
        rintro e w4 ⟨hw, jw, hw0, hw1, hjw, rfl, hm⟩
        have HM4 := Lib.hid hm
        refine ⟨_, rfl, ?_⟩
        clear HCL hHeld hm
        have hHeld := HM4.out.ops
        refine ⟨hHeld, ?_⟩
        simp only [Act.put, List.setIfInBounds_toArray, List.set_cons_zero, List.set_cons_succ]
        refine held_one (i := 11) (by kernel_rfl) ?_
        have HCL := Lib.hid (HM4.out.next 4 (by omega) (by omega) (by omega))
        refine held_callX (d := 17) rfl rfl (by rfl) rfl (by kernel_rfl) Try.func34 (by kernel_rfl) HCL.out ?_
        rintro e w5 ⟨x3, lo3, hi3, rfl, hm⟩
        have HM5 := Lib.hid hm
        refine ⟨_, rfl, ?_⟩
        clear HCL hHeld hm
        have hHeld := HM5.out.ops
        refine ⟨hHeld, ?_⟩
        simp only [Act.put, List.setIfInBounds_toArray, List.set_cons_zero, List.set_cons_succ]
        refine held_take (i := 12) (d := 18) (v := .int .u64 x3) rfl rfl (by kernel_rfl) (by kernel_rfl) (by kernel_rfl) (fun _ _ _ h => h) (by rfl) (fun W _ => by have s0 : IntKind.u64.wrap x3 = x3 := IntWalk.u64_in _ (by omega); go_simp) hHeld ?_
        simp only [Act.put, List.setIfInBounds_toArray, List.set_cons_zero, List.set_cons_succ]
        refine held_take (i := 13) (d := 19) (v := .agg #[.int .i64 (1 + x0), .int .i64 (opL.getD m 0), .int .u64 hw, .int .u64 x3, .int .i64 0]) rfl rfl (by kernel_rfl) (by kernel_rfl) (by kernel_rfl) (fun _ _ _ h => h) (by rfl) (fun W _ => by go_simp) hHeld ?_
        simp only [Act.put, List.setIfInBounds_toArray, List.set_cons_zero, List.set_cons_succ]
        obtain ⟨hx, hx1, hx2, hx3, hx4⟩ := HM5.out.ext
        obtain ⟨c0, c1, c2, c3, c4⟩ := hx.cells
        have f0 := hx.fr 0
        have f1 := hx.fr 1
        have f2 := hx.fr 2
        have f3 := hx.fr 3
        have f4 := hx.fr 4
        have hxl := hx.lt
        refine held_one (i := 15) (by kernel_rfl) ?_
        refine held_skip (w' := (((((w5.setCell ⟨eb, 0, none⟩ (.int .i64 (1 + x0))).setCell ⟨eb, 1, none⟩ (.int .i64 (opL.getD m 0))).setCell ⟨eb, 2, none⟩ (.int .u64 hw)).setCell ⟨eb, 3, none⟩ (.int .u64 x3)).setCell ⟨eb, 4, none⟩ (.int .i64 0))) rfl rfl (by rfl) (by go_simp) ?_
        have HMF := Lib.hid (HM5.out.sets (1 + x0) (opL.getD m 0) hw x3 0)
        clear hHeld
        have hHeld := HMF.out.ops
        refine ⟨hHeld, ?_⟩
        refine wpAnyH_done (by kernel_rfl) ?_ _
        clear hHeld c0 c1 c2 c3 c4 f0 f1 f2 f3 f4 hx hx1 hx2 hx3 hx4 hxl
        generalize (((((w5.setCell ⟨eb, 0, none⟩ (.int .i64 (1 + x0))).setCell ⟨eb, 1, none⟩ (.int .i64 (opL.getD m 0))).setCell ⟨eb, 2, none⟩ (.int .u64 hw)).setCell ⟨eb, 3, none⟩ (.int .u64 x3)).setCell ⟨eb, 4, none⟩ (.int .i64 0)) = wf at *
        have HCK : Hid (∀ er : Int, 0 ≤ er → er < 30 → chkV (1 + x0) (opL.getD m 0) er = 0 ∧ 1 + x0 ≤ 3) := Lib.hid (fun er e0 e1 => ⟨chk_made lo0 hi0 hm13 e0 e1, by omega⟩)
        generalize opL.getD m 0 = ov at *
        have HC := Lib.hid (HMF.out.next 3 (by omega) (by omega) (by omega))
        go_wp2_with fail
        refine HC.out.mono ?_
        rintro e u1 ⟨y0, ly0, hy0, rfl, hm⟩
        have HY := Lib.hid hm
        clear hm HC HMF
        by_cases hy : y0 = 0
        · have hyb : (y0 == 0) = true := by simpa using hy
          clear hy
          have HC := Lib.hid (HY.out.next 30 (by omega) (by omega) (by omega))
          go_wp2_with fail
          refine HC.out.mono ?_
          rintro e u2 ⟨y1, ly1, hy1, rfl, hm⟩
          have HYA := Lib.hid hm
          clear hm HC HY
          obtain ⟨hx, hx1, hx2, hx3, hx4⟩ := HYA.out.ext
          obtain ⟨c0, c1, c2, c3, c4⟩ := hx.cells
          have f0 := hx.fr 0
          have f1 := hx.fr 1
          have f2 := hx.fr 2
          have f3 := hx.fr 3
          have f4 := hx.fr 4
          have hxl := hx.lt
          have HYB := Lib.hid (HYA.out.set4 y1)
          have HC9 := Lib.hid (HYB.out.next 9 (by omega) (by omega) (by omega))
          clear HYA hx hx1 hx2 hx3 hx4
          go_wp2_with fail
          clear c0 c1 c2 c3 c4 f0 f1 f2 f3 f4 hxl
          generalize u2.setCell ⟨eb, 4, none⟩ (.int .i64 y1) = u3 at *
          refine HC9.out.mono ?_
          rintro e u4 ⟨z0, lz0, hz0, rfl, hm⟩
          have HZ := Lib.hid hm
          clear hm HC9 HYB
          by_cases hz : z0 = 0
          · have hzb : (z0 == 0) = true := by simpa using hz
            clear hz
            have HCZ := Lib.hid (HZ.out.next 256 (by omega) (by omega) (by omega))
            go_wp2_with fail
            refine HCZ.out.mono ?_
            rintro e u5 ⟨z1, lz1, hz1, rfl, hm⟩
            have HZA := Lib.hid (hm.alloc (.cells #[.int .u8 z1] 5))
            have HSM := Lib.hid (sumR_any _ 1 1 [z1] _ (Bts.new u5 [z1] #[.int .u8 z1] 5 rfl (by simp [maxLen])).row (fun x hx => by simp at hx; subst hx; exact WalkArith.wf_u8 (by omega)) (by omega))
            have hsb := fnv_bd start_bd.1 start_bd.2 [z1]
            unfold Num at HSM
            generalize fnv start [z1] = sm at *
            obtain ⟨sm0, sm1⟩ := hsb
            clear hm HCZ HZ
            go_wp2_with fail
            generalize u5.alloc (.cells #[.int .u8 z1] 5) = u6 at *
            refine HSM.out.mono ?_
            rintro e u7 ⟨rfl, hww⟩
            subst hww
            obtain ⟨yx, yx1, yx2, yx3, yx4⟩ := HZA.out.ext
            obtain ⟨b0, b1, b2, b3, b4⟩ := yx.cells
            have bf := yx.fr 3
            have yxl := yx.lt
            have HZB := Lib.hid (HZA.out.set3 sm)
            clear HSM HZA yx yx1 yx2 yx3 yx4
            obtain ⟨hx, hx1, hx2, hx3, hx4⟩ := HZB.out.ext
            obtain ⟨c0, c1, c2, c3, c4⟩ := hx.cells
            have f0 := hx.fr 0
            have f1 := hx.fr 1
            have f2 := hx.fr 2
            have f3 := hx.fr 3
            have f4 := hx.fr 4
            have hxl := hx.lt
            obtain ⟨d0, d1, d2, d3, d4⟩ := HZB.out.res.cells
            have g0 := HZB.out.res.fr 0
            have g1 := HZB.out.res.fr 1
            have g2 := HZB.out.res.fr 2
            have g3 := HZB.out.res.fr 3
            have g4 := HZB.out.res.fr 4
            have hrl := HZB.out.res.lt
            have HFN := Lib.hid (HZB.out.fin (i := i) (HCK.out y1 (by omega) (by omega)) ⟨hw0, hw1⟩ ⟨by omega, by omega⟩ (by omega))
            obtain ⟨k0, k1, k2, k3, k4⟩ := (HZB.out.res.set5 (1 + x0) ov hw sm y1).cells
            clear HZB HCK
            go_wp2
            exact bodyPost_ret (v := .agg #[.int .i64 (1 + x0), .int .i64 ov, .int .u64 hw, .int .u64 sm, .int .i64 y1]) (by simp [results, Try.results14, go_sem, k0, k1, k2, k3, k4]) rfl HFN.out
          · have hzb : (z0 == 0) = false := by simpa using hz
            clear hz
            obtain ⟨hx, hx1, hx2, hx3, hx4⟩ := HZ.out.ext
            obtain ⟨c0, c1, c2, c3, c4⟩ := hx.cells
            have f0 := hx.fr 0
            have f1 := hx.fr 1
            have f2 := hx.fr 2
            have f3 := hx.fr 3
            have f4 := hx.fr 4
            have hxl := hx.lt
            obtain ⟨d0, d1, d2, d3, d4⟩ := HZ.out.res.cells
            have g0 := HZ.out.res.fr 0
            have g1 := HZ.out.res.fr 1
            have g2 := HZ.out.res.fr 2
            have g3 := HZ.out.res.fr 3
            have g4 := HZ.out.res.fr 4
            have hrl := HZ.out.res.lt
            have HFN := Lib.hid (HZ.out.fin (i := i) (HCK.out y1 (by omega) (by omega)) ⟨hw0, hw1⟩ ⟨by omega, by omega⟩ (by omega))
            obtain ⟨k0, k1, k2, k3, k4⟩ := (HZ.out.res.set5 (1 + x0) ov hw x3 y1).cells
            clear HZ HCK
            go_wp2
            exact bodyPost_ret (v := .agg #[.int .i64 (1 + x0), .int .i64 ov, .int .u64 hw, .int .u64 x3, .int .i64 y1]) (by simp [results, Try.results14, go_sem, k0, k1, k2, k3, k4]) rfl HFN.out
        · have hyb : (y0 == 0) = false := by simpa using hy
          clear hy
          have HC9 := Lib.hid (HY.out.next 9 (by omega) (by omega) (by omega))
          go_wp2_with fail
          refine HC9.out.mono ?_
          rintro e u4 ⟨z0, lz0, hz0, rfl, hm⟩
          have HZ := Lib.hid hm
          clear hm HC9 HY
          by_cases hz : z0 = 0
          · have hzb : (z0 == 0) = true := by simpa using hz
            clear hz
            have HCZ := Lib.hid (HZ.out.next 256 (by omega) (by omega) (by omega))
            go_wp2_with fail
            refine HCZ.out.mono ?_
            rintro e u5 ⟨z1, lz1, hz1, rfl, hm⟩
            have HZA := Lib.hid (hm.alloc (.cells #[.int .u8 z1] 5))
            have HSM := Lib.hid (sumR_any _ 1 1 [z1] _ (Bts.new u5 [z1] #[.int .u8 z1] 5 rfl (by simp [maxLen])).row (fun x hx => by simp at hx; subst hx; exact WalkArith.wf_u8 (by omega)) (by omega))
            have hsb := fnv_bd start_bd.1 start_bd.2 [z1]
            unfold Num at HSM
            generalize fnv start [z1] = sm at *
            obtain ⟨sm0, sm1⟩ := hsb
            clear hm HCZ HZ
            go_wp2_with fail
            generalize u5.alloc (.cells #[.int .u8 z1] 5) = u6 at *
            refine HSM.out.mono ?_
            rintro e u7 ⟨rfl, hww⟩
            subst hww
            obtain ⟨yx, yx1, yx2, yx3, yx4⟩ := HZA.out.ext
            obtain ⟨b0, b1, b2, b3, b4⟩ := yx.cells
            have bf := yx.fr 3
            have yxl := yx.lt
            have HZB := Lib.hid (HZA.out.set3 sm)
            clear HSM HZA yx yx1 yx2 yx3 yx4
            obtain ⟨hx, hx1, hx2, hx3, hx4⟩ := HZB.out.ext
            obtain ⟨c0, c1, c2, c3, c4⟩ := hx.cells
            have f0 := hx.fr 0
            have f1 := hx.fr 1
            have f2 := hx.fr 2
            have f3 := hx.fr 3
            have f4 := hx.fr 4
            have hxl := hx.lt
            obtain ⟨d0, d1, d2, d3, d4⟩ := HZB.out.res.cells
            have g0 := HZB.out.res.fr 0
            have g1 := HZB.out.res.fr 1
            have g2 := HZB.out.res.fr 2
            have g3 := HZB.out.res.fr 3
            have g4 := HZB.out.res.fr 4
            have hrl := HZB.out.res.lt
            have HFN := Lib.hid (HZB.out.fin (i := i) (HCK.out 0 (by omega) (by omega)) ⟨hw0, hw1⟩ ⟨by omega, by omega⟩ (by omega))
            obtain ⟨k0, k1, k2, k3, k4⟩ := (HZB.out.res.set5 (1 + x0) ov hw sm 0).cells
            clear HZB HCK
            go_wp2
            exact bodyPost_ret (v := .agg #[.int .i64 (1 + x0), .int .i64 ov, .int .u64 hw, .int .u64 sm, .int .i64 0]) (by simp [results, Try.results14, go_sem, k0, k1, k2, k3, k4]) rfl HFN.out
          · have hzb : (z0 == 0) = false := by simpa using hz
            clear hz
            obtain ⟨hx, hx1, hx2, hx3, hx4⟩ := HZ.out.ext
            obtain ⟨c0, c1, c2, c3, c4⟩ := hx.cells
            have f0 := hx.fr 0
            have f1 := hx.fr 1
            have f2 := hx.fr 2
            have f3 := hx.fr 3
            have f4 := hx.fr 4
            have hxl := hx.lt
            obtain ⟨d0, d1, d2, d3, d4⟩ := HZ.out.res.cells
            have g0 := HZ.out.res.fr 0
            have g1 := HZ.out.res.fr 1
            have g2 := HZ.out.res.fr 2
            have g3 := HZ.out.res.fr 3
            have g4 := HZ.out.res.fr 4
            have hrl := HZ.out.res.lt
            have HFN := Lib.hid (HZ.out.fin (i := i) (HCK.out 0 (by omega) (by omega)) ⟨hw0, hw1⟩ ⟨by omega, by omega⟩ (by omega))
            obtain ⟨k0, k1, k2, k3, k4⟩ := (HZ.out.res.set5 (1 + x0) ov hw x3 0).cells
            clear HZ HCK
            go_wp2
            exact bodyPost_ret (v := .agg #[.int .i64 (1 + x0), .int .i64 ov, .int .u64 hw, .int .u64 x3, .int .i64 0]) (by simp [results, Try.results14, go_sem, k0, k1, k2, k3, k4]) rfl HFN.out
    · refine held_make (w' := w1.alloc (.cells #[.int .i64 0, .int .i64 0, .int .u64 0, .int .u64 0, .int .i64 0] 27)) (d := 4) rfl rfl (by rfl) (v := .pointer (some ⟨w1.heap.size, 0, none⟩)) (by go_simp) ?_
      have HM2 := Lib.hid HM1.out.made
      clear hHeld
      have hHeld := HM2.out.ops
      refine ⟨hHeld, ?_⟩
      simp only [Act.put, List.setIfInBounds_toArray, List.set_cons_zero, List.set_cons_succ]
      generalize w1.heap.size = eb at *
      generalize w1.alloc (.cells #[.int .i64 0, .int .i64 0, .int .u64 0, .int .u64 0, .int .i64 0] 27) = w2 at *
      refine held_one (i := 5) (by kernel_rfl) ?_
      have HCL := Lib.hid (HM2.out.next 13 (by omega) (by omega) (by omega))
      refine held_callX (d := 11) rfl rfl (by rfl) rfl (by kernel_rfl) Try.func34 (by kernel_rfl) HCL.out ?_
      rintro e w3 ⟨x1, lo1, hi1, rfl, hm⟩
      obtain ⟨m, rfl⟩ : ∃ m : Nat, x1 = m := ⟨x1.toNat, by omega⟩
      have hm13 : m < 13 := by omega
      have HM3 := Lib.hid hm
      refine ⟨_, rfl, ?_⟩
      clear HCL hHeld hm
      have hHeld := HM3.out.ops
      refine ⟨hHeld, ?_⟩
      simp only [Act.put, List.setIfInBounds_toArray, List.set_cons_zero, List.set_cons_succ]
      refine held_take (i := 6) (d := 12) (v := .pointer (some ⟨rb + 1, m, none⟩)) rfl rfl (by kernel_rfl) (by kernel_rfl) (by kernel_rfl) (fun _ _ _ h => h) (by rfl) (fun W _ => by go_simp) hHeld ?_
      simp only [Act.put, List.setIfInBounds_toArray, List.set_cons_zero, List.set_cons_succ]
      refine held_take (i := 7) (d := 13) (v := .int .i64 (opL.getD m 0)) rfl rfl (by kernel_rfl) (by kernel_rfl) (by kernel_rfl) (fun _ _ _ h => h) (by rfl) (fun W hS => by have q0 := OpB.cell hS hm13; go_simp) hHeld ?_
      simp only [Act.put, List.setIfInBounds_toArray, List.set_cons_zero, List.set_cons_succ]
      refine held_one (i := 9) (by kernel_rfl) ?_
      have HCL := Lib.hid (HM3.out.word (by omega))
      refine held_callX (d := 15) rfl rfl (by rfl) rfl (by kernel_rfl) Try.func35 (by kernel_rfl) HCL.out ?_
      rintro e w4 ⟨hw, jw, hw0, hw1, hjw, rfl, hm⟩
      have HM4 := Lib.hid hm
      refine ⟨_, rfl, ?_⟩
      clear HCL hHeld hm
      have hHeld := HM4.out.ops
      refine ⟨hHeld, ?_⟩
      simp only [Act.put, List.setIfInBounds_toArray, List.set_cons_zero, List.set_cons_succ]
      refine held_one (i := 11) (by kernel_rfl) ?_
      have HCL := Lib.hid (HM4.out.next 4 (by omega) (by omega) (by omega))
      refine held_callX (d := 17) rfl rfl (by rfl) rfl (by kernel_rfl) Try.func34 (by kernel_rfl) HCL.out ?_
      rintro e w5 ⟨x3, lo3, hi3, rfl, hm⟩
      have HM5 := Lib.hid hm
      refine ⟨_, rfl, ?_⟩
      clear HCL hHeld hm
      have hHeld := HM5.out.ops
      refine ⟨hHeld, ?_⟩
      simp only [Act.put, List.setIfInBounds_toArray, List.set_cons_zero, List.set_cons_succ]
      refine held_take (i := 12) (d := 18) (v := .int .u64 x3) rfl rfl (by kernel_rfl) (by kernel_rfl) (by kernel_rfl) (fun _ _ _ h => h) (by rfl) (fun W _ => by have s0 : IntKind.u64.wrap x3 = x3 := IntWalk.u64_in _ (by omega); go_simp) hHeld ?_
      simp only [Act.put, List.setIfInBounds_toArray, List.set_cons_zero, List.set_cons_succ]
      refine held_take (i := 13) (d := 19) (v := .agg #[.int .i64 (1 + x0), .int .i64 (opL.getD m 0), .int .u64 hw, .int .u64 x3, .int .i64 0]) rfl rfl (by kernel_rfl) (by kernel_rfl) (by kernel_rfl) (fun _ _ _ h => h) (by rfl) (fun W _ => by go_simp) hHeld ?_
      simp only [Act.put, List.setIfInBounds_toArray, List.set_cons_zero, List.set_cons_succ]
      obtain ⟨hx, hx1, hx2, hx3, hx4⟩ := HM5.out.ext
      obtain ⟨c0, c1, c2, c3, c4⟩ := hx.cells
      have f0 := hx.fr 0
      have f1 := hx.fr 1
      have f2 := hx.fr 2
      have f3 := hx.fr 3
      have f4 := hx.fr 4
      have hxl := hx.lt
      refine held_one (i := 15) (by kernel_rfl) ?_
      refine held_skip (w' := (((((w5.setCell ⟨eb, 0, none⟩ (.int .i64 (1 + x0))).setCell ⟨eb, 1, none⟩ (.int .i64 (opL.getD m 0))).setCell ⟨eb, 2, none⟩ (.int .u64 hw)).setCell ⟨eb, 3, none⟩ (.int .u64 x3)).setCell ⟨eb, 4, none⟩ (.int .i64 0))) rfl rfl (by rfl) (by go_simp) ?_
      have HMF := Lib.hid (HM5.out.sets (1 + x0) (opL.getD m 0) hw x3 0)
      clear hHeld
      have hHeld := HMF.out.ops
      refine ⟨hHeld, ?_⟩
      refine wpAnyH_done (by kernel_rfl) ?_ _
      clear hHeld c0 c1 c2 c3 c4 f0 f1 f2 f3 f4 hx hx1 hx2 hx3 hx4 hxl
      generalize (((((w5.setCell ⟨eb, 0, none⟩ (.int .i64 (1 + x0))).setCell ⟨eb, 1, none⟩ (.int .i64 (opL.getD m 0))).setCell ⟨eb, 2, none⟩ (.int .u64 hw)).setCell ⟨eb, 3, none⟩ (.int .u64 x3)).setCell ⟨eb, 4, none⟩ (.int .i64 0)) = wf at *
      have HCK : Hid (∀ er : Int, 0 ≤ er → er < 30 → chkV (1 + x0) (opL.getD m 0) er = 0 ∧ 1 + x0 ≤ 3) := Lib.hid (fun er e0 e1 => ⟨chk_made lo0 hi0 hm13 e0 e1, by omega⟩)
      generalize opL.getD m 0 = ov at *
      have HC := Lib.hid (HMF.out.next 3 (by omega) (by omega) (by omega))
      go_wp2_with fail
      refine HC.out.mono ?_
      rintro e u1 ⟨y0, ly0, hy0, rfl, hm⟩
      have HY := Lib.hid hm
      clear hm HC HMF
      by_cases hy : y0 = 0
      · have hyb : (y0 == 0) = true := by simpa using hy
        clear hy
        have HC := Lib.hid (HY.out.next 30 (by omega) (by omega) (by omega))
        go_wp2_with fail
        refine HC.out.mono ?_
        rintro e u2 ⟨y1, ly1, hy1, rfl, hm⟩
        have HYA := Lib.hid hm
        clear hm HC HY
        obtain ⟨hx, hx1, hx2, hx3, hx4⟩ := HYA.out.ext
        obtain ⟨c0, c1, c2, c3, c4⟩ := hx.cells
        have f0 := hx.fr 0
        have f1 := hx.fr 1
        have f2 := hx.fr 2
        have f3 := hx.fr 3
        have f4 := hx.fr 4
        have hxl := hx.lt
        have HYB := Lib.hid (HYA.out.set4 y1)
        have HC9 := Lib.hid (HYB.out.next 9 (by omega) (by omega) (by omega))
        clear HYA hx hx1 hx2 hx3 hx4
        go_wp2_with fail
        clear c0 c1 c2 c3 c4 f0 f1 f2 f3 f4 hxl
        generalize u2.setCell ⟨eb, 4, none⟩ (.int .i64 y1) = u3 at *
        refine HC9.out.mono ?_
        rintro e u4 ⟨z0, lz0, hz0, rfl, hm⟩
        have HZ := Lib.hid hm
        clear hm HC9 HYB
        by_cases hz : z0 = 0
        · have hzb : (z0 == 0) = true := by simpa using hz
          clear hz
          have HCZ := Lib.hid (HZ.out.next 256 (by omega) (by omega) (by omega))
          go_wp2_with fail
          refine HCZ.out.mono ?_
          rintro e u5 ⟨z1, lz1, hz1, rfl, hm⟩
          have HZA := Lib.hid (hm.alloc (.cells #[.int .u8 z1] 5))
          have HSM := Lib.hid (sumR_any _ 1 1 [z1] _ (Bts.new u5 [z1] #[.int .u8 z1] 5 rfl (by simp [maxLen])).row (fun x hx => by simp at hx; subst hx; exact WalkArith.wf_u8 (by omega)) (by omega))
          have hsb := fnv_bd start_bd.1 start_bd.2 [z1]
          unfold Num at HSM
          generalize fnv start [z1] = sm at *
          obtain ⟨sm0, sm1⟩ := hsb
          clear hm HCZ HZ
          go_wp2_with fail
          generalize u5.alloc (.cells #[.int .u8 z1] 5) = u6 at *
          refine HSM.out.mono ?_
          rintro e u7 ⟨rfl, hww⟩
          subst hww
          obtain ⟨yx, yx1, yx2, yx3, yx4⟩ := HZA.out.ext
          obtain ⟨b0, b1, b2, b3, b4⟩ := yx.cells
          have bf := yx.fr 3
          have yxl := yx.lt
          have HZB := Lib.hid (HZA.out.set3 sm)
          clear HSM HZA yx yx1 yx2 yx3 yx4
          obtain ⟨hx, hx1, hx2, hx3, hx4⟩ := HZB.out.ext
          obtain ⟨c0, c1, c2, c3, c4⟩ := hx.cells
          have f0 := hx.fr 0
          have f1 := hx.fr 1
          have f2 := hx.fr 2
          have f3 := hx.fr 3
          have f4 := hx.fr 4
          have hxl := hx.lt
          obtain ⟨d0, d1, d2, d3, d4⟩ := HZB.out.res.cells
          have g0 := HZB.out.res.fr 0
          have g1 := HZB.out.res.fr 1
          have g2 := HZB.out.res.fr 2
          have g3 := HZB.out.res.fr 3
          have g4 := HZB.out.res.fr 4
          have hrl := HZB.out.res.lt
          have HFN := Lib.hid (HZB.out.fin (i := i) (HCK.out y1 (by omega) (by omega)) ⟨hw0, hw1⟩ ⟨by omega, by omega⟩ (by omega))
          obtain ⟨k0, k1, k2, k3, k4⟩ := (HZB.out.res.set5 (1 + x0) ov hw sm y1).cells
          clear HZB HCK
          go_wp2
          exact bodyPost_ret (v := .agg #[.int .i64 (1 + x0), .int .i64 ov, .int .u64 hw, .int .u64 sm, .int .i64 y1]) (by simp [results, Try.results14, go_sem, k0, k1, k2, k3, k4]) rfl HFN.out
        · have hzb : (z0 == 0) = false := by simpa using hz
          clear hz
          obtain ⟨hx, hx1, hx2, hx3, hx4⟩ := HZ.out.ext
          obtain ⟨c0, c1, c2, c3, c4⟩ := hx.cells
          have f0 := hx.fr 0
          have f1 := hx.fr 1
          have f2 := hx.fr 2
          have f3 := hx.fr 3
          have f4 := hx.fr 4
          have hxl := hx.lt
          obtain ⟨d0, d1, d2, d3, d4⟩ := HZ.out.res.cells
          have g0 := HZ.out.res.fr 0
          have g1 := HZ.out.res.fr 1
          have g2 := HZ.out.res.fr 2
          have g3 := HZ.out.res.fr 3
          have g4 := HZ.out.res.fr 4
          have hrl := HZ.out.res.lt
          have HFN := Lib.hid (HZ.out.fin (i := i) (HCK.out y1 (by omega) (by omega)) ⟨hw0, hw1⟩ ⟨by omega, by omega⟩ (by omega))
          obtain ⟨k0, k1, k2, k3, k4⟩ := (HZ.out.res.set5 (1 + x0) ov hw x3 y1).cells
          clear HZ HCK
          go_wp2
          exact bodyPost_ret (v := .agg #[.int .i64 (1 + x0), .int .i64 ov, .int .u64 hw, .int .u64 x3, .int .i64 y1]) (by simp [results, Try.results14, go_sem, k0, k1, k2, k3, k4]) rfl HFN.out
      · have hyb : (y0 == 0) = false := by simpa using hy
        clear hy
        have HC9 := Lib.hid (HY.out.next 9 (by omega) (by omega) (by omega))
        go_wp2_with fail
        refine HC9.out.mono ?_
        rintro e u4 ⟨z0, lz0, hz0, rfl, hm⟩
        have HZ := Lib.hid hm
        clear hm HC9 HY
        by_cases hz : z0 = 0
        · have hzb : (z0 == 0) = true := by simpa using hz
          clear hz
          have HCZ := Lib.hid (HZ.out.next 256 (by omega) (by omega) (by omega))
          go_wp2_with fail
          refine HCZ.out.mono ?_
          rintro e u5 ⟨z1, lz1, hz1, rfl, hm⟩
          have HZA := Lib.hid (hm.alloc (.cells #[.int .u8 z1] 5))
          have HSM := Lib.hid (sumR_any _ 1 1 [z1] _ (Bts.new u5 [z1] #[.int .u8 z1] 5 rfl (by simp [maxLen])).row (fun x hx => by simp at hx; subst hx; exact WalkArith.wf_u8 (by omega)) (by omega))
          have hsb := fnv_bd start_bd.1 start_bd.2 [z1]
          unfold Num at HSM
          generalize fnv start [z1] = sm at *
          obtain ⟨sm0, sm1⟩ := hsb
          clear hm HCZ HZ
          go_wp2_with fail
          generalize u5.alloc (.cells #[.int .u8 z1] 5) = u6 at *
          refine HSM.out.mono ?_
          rintro e u7 ⟨rfl, hww⟩
          subst hww
          obtain ⟨yx, yx1, yx2, yx3, yx4⟩ := HZA.out.ext
          obtain ⟨b0, b1, b2, b3, b4⟩ := yx.cells
          have bf := yx.fr 3
          have yxl := yx.lt
          have HZB := Lib.hid (HZA.out.set3 sm)
          clear HSM HZA yx yx1 yx2 yx3 yx4
          obtain ⟨hx, hx1, hx2, hx3, hx4⟩ := HZB.out.ext
          obtain ⟨c0, c1, c2, c3, c4⟩ := hx.cells
          have f0 := hx.fr 0
          have f1 := hx.fr 1
          have f2 := hx.fr 2
          have f3 := hx.fr 3
          have f4 := hx.fr 4
          have hxl := hx.lt
          obtain ⟨d0, d1, d2, d3, d4⟩ := HZB.out.res.cells
          have g0 := HZB.out.res.fr 0
          have g1 := HZB.out.res.fr 1
          have g2 := HZB.out.res.fr 2
          have g3 := HZB.out.res.fr 3
          have g4 := HZB.out.res.fr 4
          have hrl := HZB.out.res.lt
          have HFN := Lib.hid (HZB.out.fin (i := i) (HCK.out 0 (by omega) (by omega)) ⟨hw0, hw1⟩ ⟨by omega, by omega⟩ (by omega))
          obtain ⟨k0, k1, k2, k3, k4⟩ := (HZB.out.res.set5 (1 + x0) ov hw sm 0).cells
          clear HZB HCK
          go_wp2
          exact bodyPost_ret (v := .agg #[.int .i64 (1 + x0), .int .i64 ov, .int .u64 hw, .int .u64 sm, .int .i64 0]) (by simp [results, Try.results14, go_sem, k0, k1, k2, k3, k4]) rfl HFN.out
        · have hzb : (z0 == 0) = false := by simpa using hz
          clear hz
          obtain ⟨hx, hx1, hx2, hx3, hx4⟩ := HZ.out.ext
          obtain ⟨c0, c1, c2, c3, c4⟩ := hx.cells
          have f0 := hx.fr 0
          have f1 := hx.fr 1
          have f2 := hx.fr 2
          have f3 := hx.fr 3
          have f4 := hx.fr 4
          have hxl := hx.lt
          obtain ⟨d0, d1, d2, d3, d4⟩ := HZ.out.res.cells
          have g0 := HZ.out.res.fr 0
          have g1 := HZ.out.res.fr 1
          have g2 := HZ.out.res.fr 2
          have g3 := HZ.out.res.fr 3
          have g4 := HZ.out.res.fr 4
          have hrl := HZ.out.res.lt
          have HFN := Lib.hid (HZ.out.fin (i := i) (HCK.out 0 (by omega) (by omega)) ⟨hw0, hw1⟩ ⟨by omega, by omega⟩ (by omega))
          obtain ⟨k0, k1, k2, k3, k4⟩ := (HZ.out.res.set5 (1 + x0) ov hw x3 0).cells
          clear HZ HCK
          go_wp2
          exact bodyPost_ret (v := .agg #[.int .i64 (1 + x0), .int .i64 ov, .int .u64 hw, .int .u64 x3, .int .i64 0]) (by simp [results, Try.results14, go_sem, k0, k1, k2, k3, k4]) rfl HFN.out
  · refine held_make (w' := wa.drew.alloc (.cells #[.int .i64 0, .int .i64 0, .int .u64 0, .int .u64 0, .int .i64 0] 27)) (d := 4) rfl rfl (by rfl) (v := .pointer (some ⟨wa.drew.heap.size, 0, none⟩)) (by go_simp) ?_
    have HM1 := Lib.hid HM0.out.made
    clear hHeld
    have hHeld := HM1.out.ops
    refine ⟨hHeld, ?_⟩
    simp only [Act.put, List.setIfInBounds_toArray, List.set_cons_zero, List.set_cons_succ]
    generalize wa.drew.heap.size = eb at *
    generalize wa.drew.alloc (.cells #[.int .i64 0, .int .i64 0, .int .u64 0, .int .u64 0, .int .i64 0] 27) = w1 at *
    refine held_one (i := 1) (by kernel_rfl) ?_
    have HCL := Lib.hid (HM1.out.next 3 (by omega) (by omega) (by omega))
    refine held_callX (d := 7) rfl rfl (by rfl) rfl (by kernel_rfl) Try.func34 (by kernel_rfl) HCL.out ?_
    rintro e w2 ⟨x0, lo0, hi0, rfl, hm⟩
    have HM2 := Lib.hid hm
    refine ⟨_, rfl, ?_⟩
    clear HCL hHeld hm
    have hHeld := HM2.out.ops
    refine ⟨hHeld, ?_⟩
    simp only [Act.put, List.setIfInBounds_toArray, List.set_cons_zero, List.set_cons_succ]
    refine held_take (i := 2) (d := 8) (v := .int .i64 (1 + x0)) rfl rfl (by kernel_rfl) (by kernel_rfl) (by kernel_rfl) (fun _ _ _ h => h) (by rfl) (fun W _ => by have s0 : IntKind.i64.wrap (1 + x0) = 1 + x0 := IntWalk.i64_in _ (by omega); go_simp) hHeld ?_
    simp only [Act.put, List.setIfInBounds_toArray, List.set_cons_zero, List.set_cons_succ]
    refine held_one (i := 5) (by kernel_rfl) ?_
    have HCL := Lib.hid (HM2.out.next 13 (by omega) (by omega) (by omega))
    refine held_callX (d := 11) rfl rfl (by rfl) rfl (by kernel_rfl) Try.func34 (by kernel_rfl) HCL.out ?_
    rintro e w3 ⟨x1, lo1, hi1, rfl, hm⟩
    obtain ⟨m, rfl⟩ : ∃ m : Nat, x1 = m := ⟨x1.toNat, by omega⟩
    have hm13 : m < 13 := by omega
    have HM3 := Lib.hid hm
    refine ⟨_, rfl, ?_⟩
    clear HCL hHeld hm
    have hHeld := HM3.out.ops
    refine ⟨hHeld, ?_⟩
    simp only [Act.put, List.setIfInBounds_toArray, List.set_cons_zero, List.set_cons_succ]
    refine held_take (i := 6) (d := 12) (v := .pointer (some ⟨rb + 1, m, none⟩)) rfl rfl (by kernel_rfl) (by kernel_rfl) (by kernel_rfl) (fun _ _ _ h => h) (by rfl) (fun W _ => by go_simp) hHeld ?_
    simp only [Act.put, List.setIfInBounds_toArray, List.set_cons_zero, List.set_cons_succ]
    refine held_take (i := 7) (d := 13) (v := .int .i64 (opL.getD m 0)) rfl rfl (by kernel_rfl) (by kernel_rfl) (by kernel_rfl) (fun _ _ _ h => h) (by rfl) (fun W hS => by have q0 := OpB.cell hS hm13; go_simp) hHeld ?_
    simp only [Act.put, List.setIfInBounds_toArray, List.set_cons_zero, List.set_cons_succ]
    refine held_one (i := 9) (by kernel_rfl) ?_
    have HCL := Lib.hid (HM3.out.word (by omega))
    refine held_callX (d := 15) rfl rfl (by rfl) rfl (by kernel_rfl) Try.func35 (by kernel_rfl) HCL.out ?_
    rintro e w4 ⟨hw, jw, hw0, hw1, hjw, rfl, hm⟩
    have HM4 := Lib.hid hm
    refine ⟨_, rfl, ?_⟩
    clear HCL hHeld hm
    have hHeld := HM4.out.ops
    refine ⟨hHeld, ?_⟩
    simp only [Act.put, List.setIfInBounds_toArray, List.set_cons_zero, List.set_cons_succ]
    refine held_one (i := 11) (by kernel_rfl) ?_
    have HCL := Lib.hid (HM4.out.next 4 (by omega) (by omega) (by omega))
    refine held_callX (d := 17) rfl rfl (by rfl) rfl (by kernel_rfl) Try.func34 (by kernel_rfl) HCL.out ?_
    rintro e w5 ⟨x3, lo3, hi3, rfl, hm⟩
    have HM5 := Lib.hid hm
    refine ⟨_, rfl, ?_⟩
    clear HCL hHeld hm
    have hHeld := HM5.out.ops
    refine ⟨hHeld, ?_⟩
    simp only [Act.put, List.setIfInBounds_toArray, List.set_cons_zero, List.set_cons_succ]
    refine held_take (i := 12) (d := 18) (v := .int .u64 x3) rfl rfl (by kernel_rfl) (by kernel_rfl) (by kernel_rfl) (fun _ _ _ h => h) (by rfl) (fun W _ => by have s0 : IntKind.u64.wrap x3 = x3 := IntWalk.u64_in _ (by omega); go_simp) hHeld ?_
    simp only [Act.put, List.setIfInBounds_toArray, List.set_cons_zero, List.set_cons_succ]
    refine held_take (i := 13) (d := 19) (v := .agg #[.int .i64 (1 + x0), .int .i64 (opL.getD m 0), .int .u64 hw, .int .u64 x3, .int .i64 0]) rfl rfl (by kernel_rfl) (by kernel_rfl) (by kernel_rfl) (fun _ _ _ h => h) (by rfl) (fun W _ => by go_simp) hHeld ?_
    simp only [Act.put, List.setIfInBounds_toArray, List.set_cons_zero, List.set_cons_succ]
    obtain ⟨hx, hx1, hx2, hx3, hx4⟩ := HM5.out.ext
    obtain ⟨c0, c1, c2, c3, c4⟩ := hx.cells
    have f0 := hx.fr 0
    have f1 := hx.fr 1
    have f2 := hx.fr 2
    have f3 := hx.fr 3
    have f4 := hx.fr 4
    have hxl := hx.lt
    refine held_one (i := 15) (by kernel_rfl) ?_
    refine held_skip (w' := (((((w5.setCell ⟨eb, 0, none⟩ (.int .i64 (1 + x0))).setCell ⟨eb, 1, none⟩ (.int .i64 (opL.getD m 0))).setCell ⟨eb, 2, none⟩ (.int .u64 hw)).setCell ⟨eb, 3, none⟩ (.int .u64 x3)).setCell ⟨eb, 4, none⟩ (.int .i64 0))) rfl rfl (by rfl) (by go_simp) ?_
    have HMF := Lib.hid (HM5.out.sets (1 + x0) (opL.getD m 0) hw x3 0)
    clear hHeld
    have hHeld := HMF.out.ops
    refine ⟨hHeld, ?_⟩
    refine wpAnyH_done (by kernel_rfl) ?_ _
    clear hHeld c0 c1 c2 c3 c4 f0 f1 f2 f3 f4 hx hx1 hx2 hx3 hx4 hxl
    generalize (((((w5.setCell ⟨eb, 0, none⟩ (.int .i64 (1 + x0))).setCell ⟨eb, 1, none⟩ (.int .i64 (opL.getD m 0))).setCell ⟨eb, 2, none⟩ (.int .u64 hw)).setCell ⟨eb, 3, none⟩ (.int .u64 x3)).setCell ⟨eb, 4, none⟩ (.int .i64 0)) = wf at *
    have HCK : Hid (∀ er : Int, 0 ≤ er → er < 30 → chkV (1 + x0) (opL.getD m 0) er = 0 ∧ 1 + x0 ≤ 3) := Lib.hid (fun er e0 e1 => ⟨chk_made lo0 hi0 hm13 e0 e1, by omega⟩)
    generalize opL.getD m 0 = ov at *
    have HC := Lib.hid (HMF.out.next 3 (by omega) (by omega) (by omega))
    go_wp2_with fail
    refine HC.out.mono ?_
    rintro e u1 ⟨y0, ly0, hy0, rfl, hm⟩
    have HY := Lib.hid hm
    clear hm HC HMF
    by_cases hy : y0 = 0
    · have hyb : (y0 == 0) = true := by simpa using hy
      clear hy
      have HC := Lib.hid (HY.out.next 30 (by omega) (by omega) (by omega))
      go_wp2_with fail
      refine HC.out.mono ?_
      rintro e u2 ⟨y1, ly1, hy1, rfl, hm⟩
      have HYA := Lib.hid hm
      clear hm HC HY
      obtain ⟨hx, hx1, hx2, hx3, hx4⟩ := HYA.out.ext
      obtain ⟨c0, c1, c2, c3, c4⟩ := hx.cells
      have f0 := hx.fr 0
      have f1 := hx.fr 1
      have f2 := hx.fr 2
      have f3 := hx.fr 3
      have f4 := hx.fr 4
      have hxl := hx.lt
      have HYB := Lib.hid (HYA.out.set4 y1)
      have HC9 := Lib.hid (HYB.out.next 9 (by omega) (by omega) (by omega))
      clear HYA hx hx1 hx2 hx3 hx4
      go_wp2_with fail
      clear c0 c1 c2 c3 c4 f0 f1 f2 f3 f4 hxl
      generalize u2.setCell ⟨eb, 4, none⟩ (.int .i64 y1) = u3 at *
      refine HC9.out.mono ?_
      rintro e u4 ⟨z0, lz0, hz0, rfl, hm⟩
      have HZ := Lib.hid hm
      clear hm HC9 HYB
      by_cases hz : z0 = 0
      · have hzb : (z0 == 0) = true := by simpa using hz
        clear hz
        have HCZ := Lib.hid (HZ.out.next 256 (by omega) (by omega) (by omega))
        go_wp2_with fail
        refine HCZ.out.mono ?_
        rintro e u5 ⟨z1, lz1, hz1, rfl, hm⟩
        have HZA := Lib.hid (hm.alloc (.cells #[.int .u8 z1] 5))
        have HSM := Lib.hid (sumR_any _ 1 1 [z1] _ (Bts.new u5 [z1] #[.int .u8 z1] 5 rfl (by simp [maxLen])).row (fun x hx => by simp at hx; subst hx; exact WalkArith.wf_u8 (by omega)) (by omega))
        have hsb := fnv_bd start_bd.1 start_bd.2 [z1]
        unfold Num at HSM
        generalize fnv start [z1] = sm at *
        obtain ⟨sm0, sm1⟩ := hsb
        clear hm HCZ HZ
        go_wp2_with fail
        generalize u5.alloc (.cells #[.int .u8 z1] 5) = u6 at *
        refine HSM.out.mono ?_
        rintro e u7 ⟨rfl, hww⟩
        subst hww
        obtain ⟨yx, yx1, yx2, yx3, yx4⟩ := HZA.out.ext
        obtain ⟨b0, b1, b2, b3, b4⟩ := yx.cells
        have bf := yx.fr 3
        have yxl := yx.lt
        have HZB := Lib.hid (HZA.out.set3 sm)
        clear HSM HZA yx yx1 yx2 yx3 yx4
        obtain ⟨hx, hx1, hx2, hx3, hx4⟩ := HZB.out.ext
        obtain ⟨c0, c1, c2, c3, c4⟩ := hx.cells
        have f0 := hx.fr 0
        have f1 := hx.fr 1
        have f2 := hx.fr 2
        have f3 := hx.fr 3
        have f4 := hx.fr 4
        have hxl := hx.lt
        obtain ⟨d0, d1, d2, d3, d4⟩ := HZB.out.res.cells
        have g0 := HZB.out.res.fr 0
        have g1 := HZB.out.res.fr 1
        have g2 := HZB.out.res.fr 2
        have g3 := HZB.out.res.fr 3
        have g4 := HZB.out.res.fr 4
        have hrl := HZB.out.res.lt
        have HFN := Lib.hid (HZB.out.fin (i := i) (HCK.out y1 (by omega) (by omega)) ⟨hw0, hw1⟩ ⟨by omega, by omega⟩ (by omega))
        obtain ⟨k0, k1, k2, k3, k4⟩ := (HZB.out.res.set5 (1 + x0) ov hw sm y1).cells
        clear HZB HCK
        go_wp2
        exact bodyPost_ret (v := .agg #[.int .i64 (1 + x0), .int .i64 ov, .int .u64 hw, .int .u64 sm, .int .i64 y1]) (by simp [results, Try.results14, go_sem, k0, k1, k2, k3, k4]) rfl HFN.out
      · have hzb : (z0 == 0) = false := by simpa using hz
        clear hz
        obtain ⟨hx, hx1, hx2, hx3, hx4⟩ := HZ.out.ext
        obtain ⟨c0, c1, c2, c3, c4⟩ := hx.cells
        have f0 := hx.fr 0
        have f1 := hx.fr 1
        have f2 := hx.fr 2
        have f3 := hx.fr 3
        have f4 := hx.fr 4
        have hxl := hx.lt
        obtain ⟨d0, d1, d2, d3, d4⟩ := HZ.out.res.cells
        have g0 := HZ.out.res.fr 0
        have g1 := HZ.out.res.fr 1
        have g2 := HZ.out.res.fr 2
        have g3 := HZ.out.res.fr 3
        have g4 := HZ.out.res.fr 4
        have hrl := HZ.out.res.lt
        have HFN := Lib.hid (HZ.out.fin (i := i) (HCK.out y1 (by omega) (by omega)) ⟨hw0, hw1⟩ ⟨by omega, by omega⟩ (by omega))
        obtain ⟨k0, k1, k2, k3, k4⟩ := (HZ.out.res.set5 (1 + x0) ov hw x3 y1).cells
        clear HZ HCK
        go_wp2
        exact bodyPost_ret (v := .agg #[.int .i64 (1 + x0), .int .i64 ov, .int .u64 hw, .int .u64 x3, .int .i64 y1]) (by simp [results, Try.results14, go_sem, k0, k1, k2, k3, k4]) rfl HFN.out
    · have hyb : (y0 == 0) = false := by simpa using hy
      clear hy
      have HC9 := Lib.hid (HY.out.next 9 (by omega) (by omega) (by omega))
      go_wp2_with fail
      refine HC9.out.mono ?_
      rintro e u4 ⟨z0, lz0, hz0, rfl, hm⟩
      have HZ := Lib.hid hm
      clear hm HC9 HY
      by_cases hz : z0 = 0
      · have hzb : (z0 == 0) = true := by simpa using hz
        clear hz
        have HCZ := Lib.hid (HZ.out.next 256 (by omega) (by omega) (by omega))
        go_wp2_with fail
        refine HCZ.out.mono ?_
        rintro e u5 ⟨z1, lz1, hz1, rfl, hm⟩
        have HZA := Lib.hid (hm.alloc (.cells #[.int .u8 z1] 5))
        have HSM := Lib.hid (sumR_any _ 1 1 [z1] _ (Bts.new u5 [z1] #[.int .u8 z1] 5 rfl (by simp [maxLen])).row (fun x hx => by simp at hx; subst hx; exact WalkArith.wf_u8 (by omega)) (by omega))
        have hsb := fnv_bd start_bd.1 start_bd.2 [z1]
        unfold Num at HSM
        generalize fnv start [z1] = sm at *
        obtain ⟨sm0, sm1⟩ := hsb
        clear hm HCZ HZ
        go_wp2_with fail
        generalize u5.alloc (.cells #[.int .u8 z1] 5) = u6 at *
        refine HSM.out.mono ?_
        rintro e u7 ⟨rfl, hww⟩
        subst hww
        obtain ⟨yx, yx1, yx2, yx3, yx4⟩ := HZA.out.ext
        obtain ⟨b0, b1, b2, b3, b4⟩ := yx.cells
        have bf := yx.fr 3
        have yxl := yx.lt
        have HZB := Lib.hid (HZA.out.set3 sm)
        clear HSM HZA yx yx1 yx2 yx3 yx4
        obtain ⟨hx, hx1, hx2, hx3, hx4⟩ := HZB.out.ext
        obtain ⟨c0, c1, c2, c3, c4⟩ := hx.cells
        have f0 := hx.fr 0
        have f1 := hx.fr 1
        have f2 := hx.fr 2
        have f3 := hx.fr 3
        have f4 := hx.fr 4
        have hxl := hx.lt
        obtain ⟨d0, d1, d2, d3, d4⟩ := HZB.out.res.cells
        have g0 := HZB.out.res.fr 0
        have g1 := HZB.out.res.fr 1
        have g2 := HZB.out.res.fr 2
        have g3 := HZB.out.res.fr 3
        have g4 := HZB.out.res.fr 4
        have hrl := HZB.out.res.lt
        have HFN := Lib.hid (HZB.out.fin (i := i) (HCK.out 0 (by omega) (by omega)) ⟨hw0, hw1⟩ ⟨by omega, by omega⟩ (by omega))
        obtain ⟨k0, k1, k2, k3, k4⟩ := (HZB.out.res.set5 (1 + x0) ov hw sm 0).cells
        clear HZB HCK
        go_wp2
        exact bodyPost_ret (v := .agg #[.int .i64 (1 + x0), .int .i64 ov, .int .u64 hw, .int .u64 sm, .int .i64 0]) (by simp [results, Try.results14, go_sem, k0, k1, k2, k3, k4]) rfl HFN.out
      · have hzb : (z0 == 0) = false := by simpa using hz
        clear hz
        obtain ⟨hx, hx1, hx2, hx3, hx4⟩ := HZ.out.ext
        obtain ⟨c0, c1, c2, c3, c4⟩ := hx.cells
        have f0 := hx.fr 0
        have f1 := hx.fr 1
        have f2 := hx.fr 2
        have f3 := hx.fr 3
        have f4 := hx.fr 4
        have hxl := hx.lt
        obtain ⟨d0, d1, d2, d3, d4⟩ := HZ.out.res.cells
        have g0 := HZ.out.res.fr 0
        have g1 := HZ.out.res.fr 1
        have g2 := HZ.out.res.fr 2
        have g3 := HZ.out.res.fr 3
        have g4 := HZ.out.res.fr 4
        have hrl := HZ.out.res.lt
        have HFN := Lib.hid (HZ.out.fin (i := i) (HCK.out 0 (by omega) (by omega)) ⟨hw0, hw1⟩ ⟨by omega, by omega⟩ (by omega))
        obtain ⟨k0, k1, k2, k3, k4⟩ := (HZ.out.res.set5 (1 + x0) ov hw x3 0).cells
        clear HZ HCK
        go_wp2
        exact bodyPost_ret (v := .agg #[.int .i64 (1 + x0), .int .i64 ov, .int .u64 hw, .int .u64 x3, .int .i64 0]) (by simp [results, Try.results14, go_sem, k0, k1, k2, k3, k4]) rfl HFN.out
end Go.Proofs.Ytlgoiccekgjhnaa
