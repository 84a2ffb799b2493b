/-
  The law QuotaBack as a walk: called with any arguments of its types it returns true. No conditions.
-/
import Derived.Test.YtfhpdjlppblkcaaQst
import Derived.Test.YtfhpdjlppblkcaaFiv
namespace Go.Proofs.Ytfhpdjlppblkcaa
open Go.ChangeShapes Go.WideShapes Go.RowKit
set_option linter.unusedVariables false
set_option linter.unusedSimpArgs false
set_option maxHeartbeats 8000000
set_option maxRecDepth 100000

section
variable {w w0 : World} {c0 : Nat → Nat} {N p : Nat} {l : Q3} {f : Int → Q3} {z a b d r : Int}
theorem Tl.addL' (H : Tl w0 c0 N p l f w) (hl : l.In) (hz : Ri z) (hN : N < 100000) (hr : fitE l (f z) ⟨a, b, d⟩ = r) : Calls Try.prog 15 #[.pointer (some ⟨p, 0, none⟩), .int .i64 z, .agg #[.int .i64 a, .int .i64 b, .int .i64 d]] w fun e w' => e = .returned (.int .i64 r) ∧ Tl w0 c0 (N + 1) p l (addF l z ⟨a, b, d⟩ f) w' := by
  have := H.addL hl hz hN ⟨a, b, d⟩
  rw [hr] at this
  exact this
theorem Tl.subL' (H : Tl w0 c0 N p l f w) (hl : l.In) (hz : Ri z) (hN : N < 100000) (hi : Q3.In ⟨a, b, d⟩) (hr : subE (f z) ⟨a, b, d⟩ = r) : Calls Try.prog 17 #[.pointer (some ⟨p, 0, none⟩), .int .i64 z, .agg #[.int .i64 a, .int .i64 b, .int .i64 d]] w fun e w' => e = .returned (.int .i64 r) ∧ Tl w0 c0 (N + 1) p l (subF z ⟨a, b, d⟩ f) w' := by
  have := H.subL hl hz hN hi
  rw [hr] at this
  exact this
theorem Tl.getL' (H : Tl w0 c0 N p l f w) (hz : Ri z) (hr : f z = ⟨a, b, d⟩) : Calls Try.prog 10 #[.pointer (some ⟨p, 0, none⟩), .int .i64 z] w fun e w' => e = .returned (.agg #[.int .i64 a, .int .i64 b, .int .i64 d]) ∧ Tl w0 c0 N p l f w' := by
  have := H.getL hz
  rw [hr] at this
  exact this
end
theorem in1000 : Q3.In ⟨1000, 1000, 1000⟩ := by simp [Q3.In]
theorem fit_yes {l x q : Q3} (hb : 0 ≤ q.b ∧ x.b + q.b ≤ l.b) (ho : 0 ≤ q.o ∧ x.o + q.o ≤ l.o) (hh : 0 ≤ q.h ∧ x.h + q.h ≤ l.h) : fitE l x q = 0 := by
  refine fit_ok.2 ⟨?_, ?_⟩
  · unfold Q3.neg
    omega
  · unfold Q3.over
    omega
theorem sub_yes {x q : Q3} (hb : 0 ≤ q.b ∧ q.b ≤ x.b) (ho : 0 ≤ q.o ∧ q.o ≤ x.o) (hh : 0 ≤ q.h ∧ q.h ≤ x.h) : subE x q = 0 := by
  refine sub_ok.2 ⟨?_, ?_⟩
  · unfold Q3.neg
    omega
  · unfold Q3.sub Q3.neg
    simp only
    omega
theorem quotaBack_walk (x0 y0 z0 x1 y1 z1 : Int) (w : World) (w0 : Three x0 y0 z0) (w1 : Three x1 y1 z1) :
    Calls Try.prog 6 #[.agg #[.int .u8 x0, .int .u8 y0, .int .u8 z0], .agg #[.int .u8 x1, .int .u8 y1, .int .u8 z1]] w fun e w' => e = .returned (.bool true) ∧ Below w.heap.size w w' := by
  obtain ⟨hx0, hy0, hz0⟩ := w0
  obtain ⟨hx1, hy1, hz1⟩ := w1
  have h0 := heap_alloc_new w (.cells #[.int .u8 x0, .int .u8 y0, .int .u8 z0] 22)
  have h1 := heap_alloc_new (w.alloc (.cells #[.int .u8 x0, .int .u8 y0, .int .u8 z0] 22)) (.cells #[.int .u8 x1, .int .u8 y1, .int .u8 z1] 22)
  have h0' := (Below.heap_alloc (w.alloc (.cells #[.int .u8 x0, .int .u8 y0, .int .u8 z0] 22)) (.cells #[.int .u8 x1, .int .u8 y1, .int .u8 z1] 22) w.heap.size (by simp)).trans h0
  rw [show (w.alloc (.cells #[.int .u8 x0, .int .u8 y0, .int .u8 z0] 22)).heap.size = w.heap.size + 1 by simp] at h1
  have hb : Below w.heap.size w ((w.alloc (.cells #[.int .u8 x0, .int .u8 y0, .int .u8 z0] 22)).alloc (.cells #[.int .u8 x1, .int .u8 y1, .int .u8 z1] 22)) := ((Below.refl _ _).alloc (Nat.le_refl _) _).alloc (by simp) _
  have HB := Lib.hid hb
  have HH0 := Lib.hid h0'
  have HH1 := Lib.hid h1
  have HN := Lib.hid (newQ_any ⟨1000, 1000, 1000⟩ ((w.alloc (.cells #[.int .u8 x0, .int .u8 y0, .int .u8 z0] 22)).alloc (.cells #[.int .u8 x1, .int .u8 y1, .int .u8 z1] 22)) (fun _ => 0) 1)
  unfold Q3.val at HN
  simp only at HN
  have HE1 : Hid (fitE ⟨1000, 1000, 1000⟩ Q3.nul ⟨x0, y0, z0⟩ = 0) := Lib.hid (fit_yes (by unfold Q3.nul; simp only; omega) (by unfold Q3.nul; simp only; omega) (by unfold Q3.nul; simp only; omega))
  have HX1 : Hid (addF ⟨1000, 1000, 1000⟩ 1 ⟨x0, y0, z0⟩ (fun _ => Q3.nul) 1 = ⟨x0, y0, z0⟩) := Lib.hid (by rw [add_at (f := fun _ => Q3.nul) (z := 1) (x := Q3.nul) rfl HE1.out]; simp [Q3.add, Q3.nul])
  have HE2 : Hid (fitE ⟨1000, 1000, 1000⟩ (addF ⟨1000, 1000, 1000⟩ 1 ⟨x0, y0, z0⟩ (fun _ => Q3.nul) 1) ⟨x1, y1, z1⟩ = 0) := Lib.hid (by rw [HX1.out]; exact fit_yes (by simp only; omega) (by simp only; omega) (by simp only; omega))
  have HX2 := Lib.hid (add_at HX1.out (HX1.out ▸ HE2.out))
  have HE3 : Hid (subE (addF ⟨1000, 1000, 1000⟩ 1 ⟨x1, y1, z1⟩ (addF ⟨1000, 1000, 1000⟩ 1 ⟨x0, y0, z0⟩ (fun _ => Q3.nul)) 1) ⟨x0 + x1, y0 + y1, z0 + z1 + 1⟩ = 1) := Lib.hid (by
    rw [HX2.out]
    unfold subE Q3.sub Q3.add Q3.neg
    simp only
    rw [if_pos (by omega)])
  have HX3 : Hid (subF 1 ⟨x0 + x1, y0 + y1, z0 + z1 + 1⟩ (addF ⟨1000, 1000, 1000⟩ 1 ⟨x1, y1, z1⟩ (addF ⟨1000, 1000, 1000⟩ 1 ⟨x0, y0, z0⟩ (fun _ => Q3.nul))) 1 = Q3.add ⟨x0, y0, z0⟩ ⟨x1, y1, z1⟩) := Lib.hid (by
    rw [sub_no rfl (by rw [HE3.out]; omega)]
    exact HX2.out)
  have HE4 : Hid (subE (subF 1 ⟨x0 + x1, y0 + y1, z0 + z1 + 1⟩ (addF ⟨1000, 1000, 1000⟩ 1 ⟨x1, y1, z1⟩ (addF ⟨1000, 1000, 1000⟩ 1 ⟨x0, y0, z0⟩ (fun _ => Q3.nul))) 1) ⟨x1, y1, z1⟩ = 0) := Lib.hid (by
    rw [HX3.out]
    exact sub_yes (by unfold Q3.add; simp only; omega) (by unfold Q3.add; simp only; omega) (by unfold Q3.add; simp only; omega))
  have HX4 : Hid (subF 1 ⟨x1, y1, z1⟩ (subF 1 ⟨x0 + x1, y0 + y1, z0 + z1 + 1⟩ (addF ⟨1000, 1000, 1000⟩ 1 ⟨x1, y1, z1⟩ (addF ⟨1000, 1000, 1000⟩ 1 ⟨x0, y0, z0⟩ (fun _ => Q3.nul)))) 1 = ⟨x0, y0, z0⟩) := Lib.hid (by
    rw [sub_at HX3.out (HX3.out ▸ HE4.out)]
    unfold Q3.add Q3.sub
    simp only [Int.add_sub_cancel])
  have HI3 : Hid (Q3.In ⟨x0 + x1, y0 + y1, z0 + z1 + 1⟩) := Lib.hid (by unfold Q3.In; simp only; omega)
  have HI4 : Hid (Q3.In ⟨x1, y1, z1⟩) := Lib.hid (by unfold Q3.In; simp only; omega)
  clear hb h0 h1 h0'
  go_enter Try.func6, Try.ntmps6
  go_wp2_with fail
  generalize (w.alloc (.cells #[.int .u8 x0, .int .u8 y0, .int .u8 z0] 22)).alloc (.cells #[.int .u8 x1, .int .u8 y1, .int .u8 z1] 22) = w3 at *
  refine HN.out.mono ?_
  rintro e wa ⟨p, rfl, hp, hL, hb⟩
  have ha0 := (hb.block _ (Array.getElem?_eq_some_iff.1 HH0.out).1).trans HH0.out
  have ha1 := (hb.block _ (Array.getElem?_eq_some_iff.1 HH1.out).1).trans HH1.out
  have hl0 := (Array.getElem?_eq_some_iff.1 ha0).1
  have hl1 := (Array.getElem?_eq_some_iff.1 ha1).1
  obtain ⟨q0, q1, q2⟩ := cells3 ha0
  obtain ⟨r0, r1, r2⟩ := cells3 ha1
  have hbq : Below wa.heap.size wa (((wa.alloc (.cells #[.int .i64 x0, .int .i64 y0, .int .i64 z0] 25)).alloc (.cells #[.int .i64 x1, .int .i64 y1, .int .i64 z1] 25)).alloc (.cells #[.int .i64 (x0 + x1), .int .i64 (y0 + y1), .int .i64 (z0 + z1 + 1)] 25)) := ((((Below.refl _ _).alloc (Nat.le_refl _) _).alloc (by simp) _).alloc (by simp; omega) _)
  have k0 : (((wa.alloc (.cells #[.int .i64 x0, .int .i64 y0, .int .i64 z0] 25)).alloc (.cells #[.int .i64 x1, .int .i64 y1, .int .i64 z1] 25)).alloc (.cells #[.int .i64 (x0 + x1), .int .i64 (y0 + y1), .int .i64 (z0 + z1 + 1)] 25)).heap[wa.heap.size]? = some (.cells #[.int .i64 x0, .int .i64 y0, .int .i64 z0] 25 (0, 0)) := by
    rw [Below.heap_alloc _ _ _ (by simp; omega), Below.heap_alloc _ _ _ (by simp)]
    exact heap_alloc_new wa _
  have k1 : (((wa.alloc (.cells #[.int .i64 x0, .int .i64 y0, .int .i64 z0] 25)).alloc (.cells #[.int .i64 x1, .int .i64 y1, .int .i64 z1] 25)).alloc (.cells #[.int .i64 (x0 + x1), .int .i64 (y0 + y1), .int .i64 (z0 + z1 + 1)] 25)).heap[wa.heap.size + 1]? = some (.cells #[.int .i64 x1, .int .i64 y1, .int .i64 z1] 25 (0, 0)) := by
    rw [Below.heap_alloc _ _ _ (by simp)]
    have := heap_alloc_new (wa.alloc (.cells #[.int .i64 x0, .int .i64 y0, .int .i64 z0] 25)) (.cells #[.int .i64 x1, .int .i64 y1, .int .i64 z1] 25)
    rw [show (wa.alloc (.cells #[.int .i64 x0, .int .i64 y0, .int .i64 z0] 25)).heap.size = wa.heap.size + 1 by simp] at this
    exact this
  have k2 : (((wa.alloc (.cells #[.int .i64 x0, .int .i64 y0, .int .i64 z0] 25)).alloc (.cells #[.int .i64 x1, .int .i64 y1, .int .i64 z1] 25)).alloc (.cells #[.int .i64 (x0 + x1), .int .i64 (y0 + y1), .int .i64 (z0 + z1 + 1)] 25)).heap[wa.heap.size + 2]? = some (.cells #[.int .i64 (x0 + x1), .int .i64 (y0 + y1), .int .i64 (z0 + z1 + 1)] 25 (0, 0)) := by
    have := heap_alloc_new ((wa.alloc (.cells #[.int .i64 x0, .int .i64 y0, .int .i64 z0] 25)).alloc (.cells #[.int .i64 x1, .int .i64 y1, .int .i64 z1] 25)) (.cells #[.int .i64 (x0 + x1), .int .i64 (y0 + y1), .int .i64 (z0 + z1 + 1)] 25)
    rw [show ((wa.alloc (.cells #[.int .i64 x0, .int .i64 y0, .int .i64 z0] 25)).alloc (.cells #[.int .i64 x1, .int .i64 y1, .int .i64 z1] 25)).heap.size = wa.heap.size + 2 by simp] at this
    exact this
  obtain ⟨c1, hT, hz, hback⟩ := (Tl.made hL hb).base hbq
  have HBK := Lib.hid (fun (M : Nat) (f' : Int → Q3) (w5 : World) (h : Tl _ c1 M p ⟨1000, 1000, 1000⟩ f' w5) => (hback h).below)
  have HZ : Hid (c1 wa.heap.size = 0 ∧ c1 (wa.heap.size + 1) = 0 ∧ c1 (wa.heap.size + 2) = 0) := Lib.hid ⟨hz _ (Nat.le_refl _), hz _ (by omega), hz _ (by omega)⟩
  have HC := Lib.hid (And.intro k0 (And.intro k1 k2))
  have HTQ := Lib.hid hT
  clear HN hL hb hp hT hz hback k0 k1 k2 hbq ha0 ha1 HH0 HH1
  go_wp2_with fail
  generalize ((wa.alloc (.cells #[.int .i64 x0, .int .i64 y0, .int .i64 z0] 25)).alloc (.cells #[.int .i64 x1, .int .i64 y1, .int .i64 z1] 25)).alloc (.cells #[.int .i64 (x0 + x1), .int .i64 (y0 + y1), .int .i64 (z0 + z1 + 1)] 25) = wq at *
  generalize wa.heap.size = ba at *
  have HT0 := Lib.hid (HTQ.out.go (below_drewN (Below.refl wq.heap.size wq) 1))
  have HC0 : Hid (wq.drew.heap[ba]? = some (.cells #[.int .i64 x0, .int .i64 y0, .int .i64 z0] 25 (0, 0)) ∧ wq.drew.heap[ba + 1]? = some (.cells #[.int .i64 x1, .int .i64 y1, .int .i64 z1] 25 (0, 0)) ∧ wq.drew.heap[ba + 2]? = some (.cells #[.int .i64 (x0 + x1), .int .i64 (y0 + y1), .int .i64 (z0 + z1 + 1)] 25 (0, 0))) := HC
  refine wp_region_hand 16 (fun W => W.heap[ba]? = some (.cells #[.int .i64 x0, .int .i64 y0, .int .i64 z0] 25 (0, 0)) ∧ W.heap[ba + 1]? = some (.cells #[.int .i64 x1, .int .i64 y1, .int .i64 z1] 25 (0, 0)) ∧ W.heap[ba + 2]? = some (.cells #[.int .i64 (x0 + x1), .int .i64 (y0 + y1), .int .i64 (z0 + z1 + 1)] 25 (0, 0))) (by kernel_rfl) (by kernel_rfl) ?_
  rw [show Array.replicate 16 false = #[false, false, false, false, false, false, false, false, false, false, false, false, false, false, false, false] from rfl]
  have hHeld := HC0.out
  refine held_take (i := 0) (d := 52) (v := .pointer (some ⟨p, 0, none⟩)) rfl rfl (by kernel_rfl) (by kernel_rfl) (by kernel_rfl) (fun _ _ _ h => h) (by rfl) (fun W _ => run_move_is (.tmp 5) rfl rfl W) hHeld ?_
  simp only [Act.put, List.setIfInBounds_toArray, List.set_cons_zero, List.set_cons_succ]
  refine held_take (i := 1) (d := 53) (v := .agg #[.int .i64 x0, .int .i64 y0, .int .i64 z0]) rfl rfl (by kernel_rfl) (by kernel_rfl) (by kernel_rfl) (fun _ _ _ h => h) (by rfl) (fun W hS => by obtain ⟨g0, g1, g2⟩ := cells3 hS.1; go_simp) hHeld ?_
  simp only [Act.put, List.setIfInBounds_toArray, List.set_cons_zero, List.set_cons_succ]
  refine held_take (i := 3) (d := 55) (v := .pointer (some ⟨p, 0, none⟩)) rfl rfl (by kernel_rfl) (by kernel_rfl) (by kernel_rfl) (fun _ _ _ h => h) (by rfl) (fun W _ => run_move_is (.tmp 5) rfl rfl W) hHeld ?_
  simp only [Act.put, List.setIfInBounds_toArray, List.set_cons_zero, List.set_cons_succ]
  refine held_take (i := 4) (d := 56) (v := .agg #[.int .i64 x1, .int .i64 y1, .int .i64 z1]) rfl rfl (by kernel_rfl) (by kernel_rfl) (by kernel_rfl) (fun _ _ _ h => h) (by rfl) (fun W hS => by obtain ⟨g0, g1, g2⟩ := cells3 hS.2.1; go_simp) hHeld ?_
  simp only [Act.put, List.setIfInBounds_toArray, List.set_cons_zero, List.set_cons_succ]
  refine held_take (i := 6) (d := 58) (v := .pointer (some ⟨p, 0, none⟩)) rfl rfl (by kernel_rfl) (by kernel_rfl) (by kernel_rfl) (fun _ _ _ h => h) (by rfl) (fun W _ => run_move_is (.tmp 5) rfl rfl W) hHeld ?_
  simp only [Act.put, List.setIfInBounds_toArray, List.set_cons_zero, List.set_cons_succ]
  refine held_take (i := 7) (d := 59) (v := .agg #[.int .i64 (x0 + x1), .int .i64 (y0 + y1), .int .i64 (z0 + z1 + 1)]) rfl rfl (by kernel_rfl) (by kernel_rfl) (by kernel_rfl) (fun _ _ _ h => h) (by rfl) (fun W hS => by obtain ⟨g0, g1, g2⟩ := cells3 hS.2.2; go_simp) hHeld ?_
  simp only [Act.put, List.setIfInBounds_toArray, List.set_cons_zero, List.set_cons_succ]
  refine held_take (i := 9) (d := 61) (v := .pointer (some ⟨p, 0, none⟩)) rfl rfl (by kernel_rfl) (by kernel_rfl) (by kernel_rfl) (fun _ _ _ h => h) (by rfl) (fun W _ => run_move_is (.tmp 5) rfl rfl W) hHeld ?_
  simp only [Act.put, List.setIfInBounds_toArray, List.set_cons_zero, List.set_cons_succ]
  refine held_take (i := 10) (d := 62) (v := .agg #[.int .i64 x1, .int .i64 y1, .int .i64 z1]) rfl rfl (by kernel_rfl) (by kernel_rfl) (by kernel_rfl) (fun _ _ _ h => h) (by rfl) (fun W hS => by obtain ⟨g0, g1, g2⟩ := cells3 hS.2.1; go_simp) hHeld ?_
  simp only [Act.put, List.setIfInBounds_toArray, List.set_cons_zero, List.set_cons_succ]
  have HCL := Lib.hid (HT0.out.addL' in1000 ri1 (by omega) HE1.out)
  refine held_one (i := 2) (by kernel_rfl) ?_
  refine held_callX (d := 54) rfl rfl (by rfl) rfl (by kernel_rfl) Try.func15 (by kernel_rfl) HCL.out ?_
  rintro e v1 ⟨rfl, hT1⟩
  have HT1 := Lib.hid hT1
  have HC1 : Hid (v1.heap[ba]? = some (.cells #[.int .i64 x0, .int .i64 y0, .int .i64 z0] 25 (0, 0)) ∧ v1.heap[ba + 1]? = some (.cells #[.int .i64 x1, .int .i64 y1, .int .i64 z1] 25 (0, 0)) ∧ v1.heap[ba + 2]? = some (.cells #[.int .i64 (x0 + x1), .int .i64 (y0 + y1), .int .i64 (z0 + z1 + 1)] 25 (0, 0))) := Lib.hid ⟨hT1.kz.heap HZ.out.1 HC.out.1, hT1.kz.heap HZ.out.2.1 HC.out.2.1, hT1.kz.heap HZ.out.2.2 HC.out.2.2⟩
  clear hT1
  refine ⟨_, rfl, ?_⟩
  clear HCL hHeld
  have hHeld := HC1.out
  refine ⟨hHeld, ?_⟩
  simp only [Act.put, List.setIfInBounds_toArray, List.set_cons_zero, List.set_cons_succ]
  have HCL := Lib.hid (HT1.out.addL' in1000 ri1 (by omega) HE2.out)
  refine held_one (i := 5) (by kernel_rfl) ?_
  refine held_callX (d := 57) rfl rfl (by rfl) rfl (by kernel_rfl) Try.func15 (by kernel_rfl) HCL.out ?_
  rintro e v2 ⟨rfl, hT2⟩
  have HT2 := Lib.hid hT2
  have HC2 : Hid (v2.heap[ba]? = some (.cells #[.int .i64 x0, .int .i64 y0, .int .i64 z0] 25 (0, 0)) ∧ v2.heap[ba + 1]? = some (.cells #[.int .i64 x1, .int .i64 y1, .int .i64 z1] 25 (0, 0)) ∧ v2.heap[ba + 2]? = some (.cells #[.int .i64 (x0 + x1), .int .i64 (y0 + y1), .int .i64 (z0 + z1 + 1)] 25 (0, 0))) := Lib.hid ⟨hT2.kz.heap HZ.out.1 HC.out.1, hT2.kz.heap HZ.out.2.1 HC.out.2.1, hT2.kz.heap HZ.out.2.2 HC.out.2.2⟩
  clear hT2
  refine ⟨_, rfl, ?_⟩
  clear HCL hHeld
  have hHeld := HC2.out
  refine ⟨hHeld, ?_⟩
  simp only [Act.put, List.setIfInBounds_toArray, List.set_cons_zero, List.set_cons_succ]
  have HCL := Lib.hid (HT2.out.subL' in1000 ri1 (by omega) HI3.out HE3.out)
  refine held_one (i := 8) (by kernel_rfl) ?_
  refine held_callX (d := 60) rfl rfl (by rfl) rfl (by kernel_rfl) Try.func17 (by kernel_rfl) HCL.out ?_
  rintro e v3 ⟨rfl, hT3⟩
  have HT3 := Lib.hid hT3
  have HC3 : Hid (v3.heap[ba]? = some (.cells #[.int .i64 x0, .int .i64 y0, .int .i64 z0] 25 (0, 0)) ∧ v3.heap[ba + 1]? = some (.cells #[.int .i64 x1, .int .i64 y1, .int .i64 z1] 25 (0, 0)) ∧ v3.heap[ba + 2]? = some (.cells #[.int .i64 (x0 + x1), .int .i64 (y0 + y1), .int .i64 (z0 + z1 + 1)] 25 (0, 0))) := Lib.hid ⟨hT3.kz.heap HZ.out.1 HC.out.1, hT3.kz.heap HZ.out.2.1 HC.out.2.1, hT3.kz.heap HZ.out.2.2 HC.out.2.2⟩
  clear hT3
  refine ⟨_, rfl, ?_⟩
  clear HCL hHeld
  have hHeld := HC3.out
  refine ⟨hHeld, ?_⟩
  simp only [Act.put, List.setIfInBounds_toArray, List.set_cons_zero, List.set_cons_succ]
  have HCL := Lib.hid (HT3.out.subL' in1000 ri1 (by omega) HI4.out HE4.out)
  refine held_one (i := 11) (by kernel_rfl) ?_
  refine held_callX (d := 63) rfl rfl (by rfl) rfl (by kernel_rfl) Try.func17 (by kernel_rfl) HCL.out ?_
  rintro e v4 ⟨rfl, hT4⟩
  have HT4 := Lib.hid hT4
  have HC4 : Hid (v4.heap[ba]? = some (.cells #[.int .i64 x0, .int .i64 y0, .int .i64 z0] 25 (0, 0)) ∧ v4.heap[ba + 1]? = some (.cells #[.int .i64 x1, .int .i64 y1, .int .i64 z1] 25 (0, 0)) ∧ v4.heap[ba + 2]? = some (.cells #[.int .i64 (x0 + x1), .int .i64 (y0 + y1), .int .i64 (z0 + z1 + 1)] 25 (0, 0))) := Lib.hid ⟨hT4.kz.heap HZ.out.1 HC.out.1, hT4.kz.heap HZ.out.2.1 HC.out.2.1, hT4.kz.heap HZ.out.2.2 HC.out.2.2⟩
  clear hT4
  refine ⟨_, rfl, ?_⟩
  clear HCL hHeld
  have hHeld := HC4.out
  refine ⟨hHeld, ?_⟩
  simp only [Act.put, List.setIfInBounds_toArray, List.set_cons_zero, List.set_cons_succ]
  refine held_take (i := 12) (d := 9) (v := .int .i64 0) rfl rfl (by kernel_rfl) (by kernel_rfl) (by kernel_rfl) (fun _ _ _ h => h) (by rfl) (fun W _ => by go_simp) hHeld ?_
  simp only [Act.put, List.setIfInBounds_toArray, List.set_cons_zero, List.set_cons_succ]
  refine held_take (i := 13) (d := 10) (v := .int .i64 0) rfl rfl (by kernel_rfl) (by kernel_rfl) (by kernel_rfl) (fun _ _ _ h => h) (by rfl) (fun W _ => by go_simp) hHeld ?_
  simp only [Act.put, List.setIfInBounds_toArray, List.set_cons_zero, List.set_cons_succ]
  refine held_take (i := 14) (d := 11) (v := .int .i64 1) rfl rfl (by kernel_rfl) (by kernel_rfl) (by kernel_rfl) (fun _ _ _ h => h) (by rfl) (fun W _ => by go_simp) hHeld ?_
  simp only [Act.put, List.setIfInBounds_toArray, List.set_cons_zero, List.set_cons_succ]
  refine held_take (i := 15) (d := 12) (v := .int .i64 0) rfl rfl (by kernel_rfl) (by kernel_rfl) (by kernel_rfl) (fun _ _ _ h => h) (by rfl) (fun W _ => by go_simp) hHeld ?_
  simp only [Act.put, List.setIfInBounds_toArray, List.set_cons_zero, List.set_cons_succ]
  refine wpAnyH_done (by kernel_rfl) ?_ _
  clear hHeld
  clear q0 q1 q2 r0 r1 r2
  go_wp2_with fail
  have HT5 := Lib.hid (HT4.out.go (below_drewN (Below.refl v4.heap.size v4) 1))
  have HC5 : Hid (v4.drew.heap[ba]? = some (.cells #[.int .i64 x0, .int .i64 y0, .int .i64 z0] 25 (0, 0)) ∧ v4.drew.heap[ba + 1]? = some (.cells #[.int .i64 x1, .int .i64 y1, .int .i64 z1] 25 (0, 0)) ∧ v4.drew.heap[ba + 2]? = some (.cells #[.int .i64 (x0 + x1), .int .i64 (y0 + y1), .int .i64 (z0 + z1 + 1)] 25 (0, 0))) := HC4
  refine wp_region_hand 24 (fun W => W.heap[ba]? = some (.cells #[.int .i64 x0, .int .i64 y0, .int .i64 z0] 25 (0, 0)) ∧ W.heap[ba + 1]? = some (.cells #[.int .i64 x1, .int .i64 y1, .int .i64 z1] 25 (0, 0)) ∧ W.heap[ba + 2]? = some (.cells #[.int .i64 (x0 + x1), .int .i64 (y0 + y1), .int .i64 (z0 + z1 + 1)] 25 (0, 0))) (by kernel_rfl) (by kernel_rfl) ?_
  rw [show Array.replicate 24 false = #[false, false, false, false, false, false, false, false, false, false, false, false, false, false, false, false, false, false, false, false, false, false, false, false] from rfl]
  have hHeld := HC5.out
  have HCL := Lib.hid (awake15_any v4.drew)
  refine held_one (i := 0) (by kernel_rfl) ?_
  refine held_callX (d := 64) rfl rfl (by rfl) rfl (by kernel_rfl) Try.func12 (by kernel_rfl) HCL.out ?_
  rintro e v6 ⟨rfl, hb6⟩
  have HT6 := Lib.hid (HT5.out.go hb6)
  have HC6 : Hid (v6.heap[ba]? = some (.cells #[.int .i64 x0, .int .i64 y0, .int .i64 z0] 25 (0, 0)) ∧ v6.heap[ba + 1]? = some (.cells #[.int .i64 x1, .int .i64 y1, .int .i64 z1] 25 (0, 0)) ∧ v6.heap[ba + 2]? = some (.cells #[.int .i64 (x0 + x1), .int .i64 (y0 + y1), .int .i64 (z0 + z1 + 1)] 25 (0, 0))) := Lib.hid ⟨HT6.out.kz.heap HZ.out.1 HC.out.1, HT6.out.kz.heap HZ.out.2.1 HC.out.2.1, HT6.out.kz.heap HZ.out.2.2 HC.out.2.2⟩
  clear hb6
  refine ⟨_, rfl, ?_⟩
  clear HCL hHeld
  have hHeld := HC6.out
  refine ⟨hHeld, ?_⟩
  simp only [Act.put, List.setIfInBounds_toArray, List.set_cons_zero, List.set_cons_succ]
  refine held_take (i := 1) (d := 65) (v := .bool true) rfl rfl (by kernel_rfl) (by kernel_rfl) (by kernel_rfl) (fun _ _ _ h => h) (by rfl) (fun W _ => run_move_is (.tmp 64) rfl rfl W) hHeld ?_
  simp only [Act.put, List.setIfInBounds_toArray, List.set_cons_zero, List.set_cons_succ]
  refine held_take (i := 2) (d := 66) (v := .int .i64 0) rfl rfl (by kernel_rfl) (by kernel_rfl) (by kernel_rfl) (fun _ _ _ h => h) (by rfl) (fun W _ => run_move_is (.tmp 9) rfl rfl W) hHeld ?_
  simp only [Act.put, List.setIfInBounds_toArray, List.set_cons_zero, List.set_cons_succ]
  refine held_take (i := 3) (d := 67) (v := .bool true) rfl rfl (by kernel_rfl) (by kernel_rfl) (by kernel_rfl) (fun _ _ _ h => h) (by rfl) (fun W _ => by go_simp) hHeld ?_
  simp only [Act.put, List.setIfInBounds_toArray, List.set_cons_zero, List.set_cons_succ]
  refine held_take (i := 4) (d := 68) (v := .bool true) rfl rfl (by kernel_rfl) (by kernel_rfl) (by kernel_rfl) (fun _ _ _ h => h) (by rfl) (fun W _ => by go_simp) hHeld ?_
  simp only [Act.put, List.setIfInBounds_toArray, List.set_cons_zero, List.set_cons_succ]
  refine held_take (i := 5) (d := 69) (v := .bool true) rfl rfl (by kernel_rfl) (by kernel_rfl) (by kernel_rfl) (fun _ _ _ h => h) (by rfl) (fun W _ => run_move_is (.tmp 68) rfl rfl W) hHeld ?_
  simp only [Act.put, List.setIfInBounds_toArray, List.set_cons_zero, List.set_cons_succ]
  refine held_take (i := 6) (d := 70) (v := .int .i64 0) rfl rfl (by kernel_rfl) (by kernel_rfl) (by kernel_rfl) (fun _ _ _ h => h) (by rfl) (fun W _ => run_move_is (.tmp 10) rfl rfl W) hHeld ?_
  simp only [Act.put, List.setIfInBounds_toArray, List.set_cons_zero, List.set_cons_succ]
  refine held_take (i := 7) (d := 71) (v := .bool true) rfl rfl (by kernel_rfl) (by kernel_rfl) (by kernel_rfl) (fun _ _ _ h => h) (by rfl) (fun W _ => by go_simp) hHeld ?_
  simp only [Act.put, List.setIfInBounds_toArray, List.set_cons_zero, List.set_cons_succ]
  refine held_take (i := 8) (d := 72) (v := .bool true) rfl rfl (by kernel_rfl) (by kernel_rfl) (by kernel_rfl) (fun _ _ _ h => h) (by rfl) (fun W _ => by go_simp) hHeld ?_
  simp only [Act.put, List.setIfInBounds_toArray, List.set_cons_zero, List.set_cons_succ]
  refine held_take (i := 9) (d := 73) (v := .bool true) rfl rfl (by kernel_rfl) (by kernel_rfl) (by kernel_rfl) (fun _ _ _ h => h) (by rfl) (fun W _ => run_move_is (.tmp 72) rfl rfl W) hHeld ?_
  simp only [Act.put, List.setIfInBounds_toArray, List.set_cons_zero, List.set_cons_succ]
  refine held_take (i := 10) (d := 74) (v := .int .i64 1) rfl rfl (by kernel_rfl) (by kernel_rfl) (by kernel_rfl) (fun _ _ _ h => h) (by rfl) (fun W _ => run_move_is (.tmp 11) rfl rfl W) hHeld ?_
  simp only [Act.put, List.setIfInBounds_toArray, List.set_cons_zero, List.set_cons_succ]
  refine held_take (i := 11) (d := 75) (v := .bool true) rfl rfl (by kernel_rfl) (by kernel_rfl) (by kernel_rfl) (fun _ _ _ h => h) (by rfl) (fun W _ => by go_simp) hHeld ?_
  simp only [Act.put, List.setIfInBounds_toArray, List.set_cons_zero, List.set_cons_succ]
  refine held_take (i := 12) (d := 76) (v := .bool true) rfl rfl (by kernel_rfl) (by kernel_rfl) (by kernel_rfl) (fun _ _ _ h => h) (by rfl) (fun W _ => by go_simp) hHeld ?_
  simp only [Act.put, List.setIfInBounds_toArray, List.set_cons_zero, List.set_cons_succ]
  refine held_take (i := 13) (d := 77) (v := .bool true) rfl rfl (by kernel_rfl) (by kernel_rfl) (by kernel_rfl) (fun _ _ _ h => h) (by rfl) (fun W _ => run_move_is (.tmp 76) rfl rfl W) hHeld ?_
  simp only [Act.put, List.setIfInBounds_toArray, List.set_cons_zero, List.set_cons_succ]
  refine held_take (i := 14) (d := 78) (v := .int .i64 0) rfl rfl (by kernel_rfl) (by kernel_rfl) (by kernel_rfl) (fun _ _ _ h => h) (by rfl) (fun W _ => run_move_is (.tmp 12) rfl rfl W) hHeld ?_
  simp only [Act.put, List.setIfInBounds_toArray, List.set_cons_zero, List.set_cons_succ]
  refine held_take (i := 15) (d := 79) (v := .bool true) rfl rfl (by kernel_rfl) (by kernel_rfl) (by kernel_rfl) (fun _ _ _ h => h) (by rfl) (fun W _ => by go_simp) hHeld ?_
  simp only [Act.put, List.setIfInBounds_toArray, List.set_cons_zero, List.set_cons_succ]
  refine held_take (i := 16) (d := 80) (v := .bool true) rfl rfl (by kernel_rfl) (by kernel_rfl) (by kernel_rfl) (fun _ _ _ h => h) (by rfl) (fun W _ => by go_simp) hHeld ?_
  simp only [Act.put, List.setIfInBounds_toArray, List.set_cons_zero, List.set_cons_succ]
  refine held_take (i := 17) (d := 81) (v := .bool true) rfl rfl (by kernel_rfl) (by kernel_rfl) (by kernel_rfl) (fun _ _ _ h => h) (by rfl) (fun W _ => run_move_is (.tmp 80) rfl rfl W) hHeld ?_
  simp only [Act.put, List.setIfInBounds_toArray, List.set_cons_zero, List.set_cons_succ]
  refine held_take (i := 18) (d := 82) (v := .pointer (some ⟨p, 0, none⟩)) rfl rfl (by kernel_rfl) (by kernel_rfl) (by kernel_rfl) (fun _ _ _ h => h) (by rfl) (fun W _ => run_move_is (.tmp 5) rfl rfl W) hHeld ?_
  simp only [Act.put, List.setIfInBounds_toArray, List.set_cons_zero, List.set_cons_succ]
  refine held_take (i := 20) (d := 84) (v := .agg #[.int .i64 x0, .int .i64 y0, .int .i64 z0]) rfl rfl (by kernel_rfl) (by kernel_rfl) (by kernel_rfl) (fun _ _ _ h => h) (by rfl) (fun W hS => by obtain ⟨g0, g1, g2⟩ := cells3 hS.1; go_simp) hHeld ?_
  simp only [Act.put, List.setIfInBounds_toArray, List.set_cons_zero, List.set_cons_succ]
  have HCL := Lib.hid (HT6.out.getL' ri1 HX4.out)
  refine held_one (i := 19) (by kernel_rfl) ?_
  refine held_callX (d := 83) rfl rfl (by rfl) rfl (by kernel_rfl) Try.func10 (by kernel_rfl) HCL.out ?_
  rintro e v7 ⟨rfl, hT7⟩
  have HT7 := Lib.hid hT7
  have HC7 : Hid (v7.heap[ba]? = some (.cells #[.int .i64 x0, .int .i64 y0, .int .i64 z0] 25 (0, 0)) ∧ v7.heap[ba + 1]? = some (.cells #[.int .i64 x1, .int .i64 y1, .int .i64 z1] 25 (0, 0)) ∧ v7.heap[ba + 2]? = some (.cells #[.int .i64 (x0 + x1), .int .i64 (y0 + y1), .int .i64 (z0 + z1 + 1)] 25 (0, 0))) := Lib.hid ⟨hT7.kz.heap HZ.out.1 HC.out.1, hT7.kz.heap HZ.out.2.1 HC.out.2.1, hT7.kz.heap HZ.out.2.2 HC.out.2.2⟩
  clear hT7
  refine ⟨_, rfl, ?_⟩
  clear HCL hHeld
  have hHeld := HC7.out
  refine ⟨hHeld, ?_⟩
  simp only [Act.put, List.setIfInBounds_toArray, List.set_cons_zero, List.set_cons_succ]
  refine held_take (i := 21) (d := 85) (v := .bool true) rfl rfl (by kernel_rfl) (by kernel_rfl) (by kernel_rfl) (fun _ _ _ h => h) (by rfl) (fun W _ => by have heq := eq_q3 x0 y0 z0 x0 y0 z0; go_simp) hHeld ?_
  simp only [Act.put, List.setIfInBounds_toArray, List.set_cons_zero, List.set_cons_succ]
  refine held_take (i := 22) (d := 86) (v := .bool true) rfl rfl (by kernel_rfl) (by kernel_rfl) (by kernel_rfl) (fun _ _ _ h => h) (by rfl) (fun W _ => by go_simp) hHeld ?_
  simp only [Act.put, List.setIfInBounds_toArray, List.set_cons_zero, List.set_cons_succ]
  refine held_take (i := 23) (d := 4) (v := .bool true) rfl rfl (by kernel_rfl) (by kernel_rfl) (by kernel_rfl) (fun _ _ _ h => h) (by rfl) (fun W _ => by go_simp) hHeld ?_
  simp only [Act.put, List.setIfInBounds_toArray, List.set_cons_zero, List.set_cons_succ]
  refine wpAnyH_done (by kernel_rfl) ?_ _
  clear hHeld
  have HB2 := Lib.hid (HBK.out _ _ _ HT7.out)
  clear HT0 HT1 HT2 HT3 HT4 HT5 HT6 HT7 HC0 HC1 HC2 HC3 HC4 HC5 HC6 HC7 HBK HTQ HC HZ
  go_wp2
  go_ret
  exact ⟨rfl, HB.out.trans (HB2.out.mono HB.out.size)⟩
end Go.Proofs.Ytfhpdjlppblkcaa
