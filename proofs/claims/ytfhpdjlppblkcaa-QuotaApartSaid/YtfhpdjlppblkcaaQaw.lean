/-
  The example of the chapter. No conditions.
-/
import Derived.Test.YtfhpdjlppblkcaaQam
namespace Go.Proofs.Ytfhpdjlppblkcaa
open Go.ChangeShapes Go.WideShapes Go.ChangeAt Go.RowKit
set_option linter.unusedVariables false
set_option linter.unusedSimpArgs false
set_option maxHeartbeats 4000000
set_option maxRecDepth 100000

theorem ri1 : Ri 1 := WalkArith.wf_i64 (by omega)
theorem in020 : Q3.In ⟨0, 2, 0⟩ := by simp [Q3.In]
theorem awk {w0 w : World} {c0 : Nat → Nat} {N p : Nat} {f : Int → Q3} {x : Q3} {z r : Int} (H : Tl w0 c0 N p ⟨0, 2, 0⟩ f w) (hz : Ri z) (hN : N < 100000) (hx : f z = x) (hr : fitE ⟨0, 2, 0⟩ x ⟨0, 1, 0⟩ = r) :
    Calls Try.prog 15 #[.pointer (some ⟨p, 0, none⟩), .int .i64 z, .agg #[.int .i64 0, .int .i64 1, .int .i64 0]] w fun e w' => e = .returned (.int .i64 r) ∧ ∃ f', (r = 0 → f' z = x.add ⟨0, 1, 0⟩) ∧ Tl w0 c0 (N + 1) p ⟨0, 2, 0⟩ f' w' :=
  (H.addL in020 hz hN ⟨0, 1, 0⟩).mono fun e w' ⟨he, hT⟩ => ⟨by rw [he, hx, hr], _, fun h0 => add_at hx (hr.trans h0), hT⟩
theorem awake15_any (w : World) : Calls Try.prog 12 #[] w fun e w' => e = .returned (.bool true) ∧ Below w.heap.size w w' := by
  have HN := Lib.hid (newQ_any ⟨0, 2, 0⟩ w (fun _ => 0) 1)
  unfold Q3.val at HN
  simp only at HN
  go_enter Try.func12, Try.ntmps12
  go_wp2_with fail
  refine HN.out.mono ?_
  rintro e w2 ⟨p, rfl, hp, hL, hb⟩
  obtain ⟨c1, hT, hz, hback⟩ := (Tl.made hL hb).base (below3 w2 (.int .i64 0) (.int .i64 1) (.int .i64 0) 25)
  have HBK := Lib.hid (fun (M : Nat) (f' : Int → Q3) (w3 : World) (h : Tl _ c1 M p ⟨0, 2, 0⟩ f' w3) => (hback h).below)
  have HZ : Hid (c1 w2.heap.size = 0) := Lib.hid (hz _ (Nat.le_refl _))
  have HC : Hid ((w2.alloc (.cells #[.int .i64 0, .int .i64 1, .int .i64 0] 25)).heap[w2.heap.size]? = some (.cells #[.int .i64 0, .int .i64 1, .int .i64 0] 25 (0, 0))) := Lib.hid (heap_alloc_new w2 _)
  have HTQ := Lib.hid hT
  clear HN hL hb hT hz hback hp
  go_wp2_with fail
  generalize w2.alloc (.cells #[.int .i64 0, .int .i64 1, .int .i64 0] 25) = wq at *
  generalize w2.heap.size = bq at *
  have HT0 := Lib.hid (HTQ.out.go (below_drewN (Below.refl wq.heap.size wq) 1))
  have HC0 : Hid (wq.drew.heap[bq]? = some (.cells #[.int .i64 0, .int .i64 1, .int .i64 0] 25 (0, 0))) := HC
  refine wp_region_hand 12 (fun W => W.heap[bq]? = some (.cells #[.int .i64 0, .int .i64 1, .int .i64 0] 25 (0, 0))) (by kernel_rfl) (by kernel_rfl) ?_
  rw [show Array.replicate 12 false = #[false, false, false, false, false, false, false, false, false, false, false, false] from rfl]
  have hHeld := HC0.out
  refine held_take (i := 0) (d := 11) (v := .pointer (some ⟨p, 0, none⟩)) rfl rfl (by kernel_rfl) (by kernel_rfl) (by kernel_rfl) (fun _ _ _ h => h) (by rfl) (fun W _ => run_move_is (.tmp 1) rfl rfl W) hHeld ?_
  simp only [Act.put, List.setIfInBounds_toArray, List.set_cons_zero, List.set_cons_succ]
  refine held_take (i := 1) (d := 12) (v := .agg #[.int .i64 0, .int .i64 1, .int .i64 0]) rfl rfl (by kernel_rfl) (by kernel_rfl) (by kernel_rfl) (fun _ _ _ h => h) (by rfl) (fun W hS => by obtain ⟨g0, g1, g2⟩ := cells3 hS; go_simp) hHeld ?_
  simp only [Act.put, List.setIfInBounds_toArray, List.set_cons_zero, List.set_cons_succ]
  refine held_take (i := 3) (d := 14) (v := .pointer (some ⟨p, 0, none⟩)) rfl rfl (by kernel_rfl) (by kernel_rfl) (by kernel_rfl) (fun _ _ _ h => h) (by rfl) (fun W _ => run_move_is (.tmp 1) rfl rfl W) hHeld ?_
  simp only [Act.put, List.setIfInBounds_toArray, List.set_cons_zero, List.set_cons_succ]
  refine held_take (i := 4) (d := 15) (v := .agg #[.int .i64 0, .int .i64 1, .int .i64 0]) rfl rfl (by kernel_rfl) (by kernel_rfl) (by kernel_rfl) (fun _ _ _ h => h) (by rfl) (fun W hS => by obtain ⟨g0, g1, g2⟩ := cells3 hS; go_simp) hHeld ?_
  simp only [Act.put, List.setIfInBounds_toArray, List.set_cons_zero, List.set_cons_succ]
  refine held_take (i := 6) (d := 17) (v := .pointer (some ⟨p, 0, none⟩)) rfl rfl (by kernel_rfl) (by kernel_rfl) (by kernel_rfl) (fun _ _ _ h => h) (by rfl) (fun W _ => run_move_is (.tmp 1) rfl rfl W) hHeld ?_
  simp only [Act.put, List.setIfInBounds_toArray, List.set_cons_zero, List.set_cons_succ]
  refine held_take (i := 7) (d := 18) (v := .agg #[.int .i64 0, .int .i64 1, .int .i64 0]) rfl rfl (by kernel_rfl) (by kernel_rfl) (by kernel_rfl) (fun _ _ _ h => h) (by rfl) (fun W hS => by obtain ⟨g0, g1, g2⟩ := cells3 hS; go_simp) hHeld ?_
  simp only [Act.put, List.setIfInBounds_toArray, List.set_cons_zero, List.set_cons_succ]
  have HCL := Lib.hid (awk HT0.out ri1 (by omega) rfl (r := 0) (by decide))
  refine held_one (i := 2) (by kernel_rfl) ?_
  refine held_callX (d := 13) rfl rfl (by rfl) rfl (by kernel_rfl) Try.func15 (by kernel_rfl) HCL.out ?_
  rintro e w5 ⟨rfl, f1, hf1, hT1⟩
  have HT1 := Lib.hid hT1
  have HC1 : Hid (w5.heap[bq]? = some (.cells #[.int .i64 0, .int .i64 1, .int .i64 0] 25 (0, 0))) := Lib.hid (hT1.kz.heap HZ.out HC.out)
  clear hT1
  refine ⟨_, rfl, ?_⟩
  clear HCL hHeld
  have hHeld := HC1.out
  refine ⟨hHeld, ?_⟩
  simp only [Act.put, List.setIfInBounds_toArray, List.set_cons_zero, List.set_cons_succ]
  have HCL := Lib.hid (awk HT1.out ri1 (by omega) (hf1 rfl) (r := 0) (by decide))
  refine held_one (i := 5) (by kernel_rfl) ?_
  refine held_callX (d := 16) rfl rfl (by rfl) rfl (by kernel_rfl) Try.func15 (by kernel_rfl) HCL.out ?_
  rintro e w6 ⟨rfl, f2, hf2, hT2⟩
  have HT2 := Lib.hid hT2
  have HC2 : Hid (w6.heap[bq]? = some (.cells #[.int .i64 0, .int .i64 1, .int .i64 0] 25 (0, 0))) := Lib.hid (hT2.kz.heap HZ.out HC.out)
  clear hT2
  refine ⟨_, rfl, ?_⟩
  clear HCL hHeld
  have hHeld := HC2.out
  refine ⟨hHeld, ?_⟩
  simp only [Act.put, List.setIfInBounds_toArray, List.set_cons_zero, List.set_cons_succ]
  have HCL := Lib.hid (awk HT2.out ri1 (by omega) (hf2 rfl) (r := 16) (by decide))
  refine held_one (i := 8) (by kernel_rfl) ?_
  refine held_callX (d := 19) rfl rfl (by rfl) rfl (by kernel_rfl) Try.func15 (by kernel_rfl) HCL.out ?_
  rintro e w7 ⟨rfl, f3, hf3, hT3⟩
  have HT3 := Lib.hid hT3
  have HC3 : Hid (w7.heap[bq]? = some (.cells #[.int .i64 0, .int .i64 1, .int .i64 0] 25 (0, 0))) := Lib.hid (hT3.kz.heap HZ.out HC.out)
  clear hT3
  refine ⟨_, rfl, ?_⟩
  clear HCL hHeld
  have hHeld := HC3.out
  refine ⟨hHeld, ?_⟩
  simp only [Act.put, List.setIfInBounds_toArray, List.set_cons_zero, List.set_cons_succ]
  refine held_take (i := 9) (d := 3) (v := .int .i64 0) rfl rfl (by kernel_rfl) (by kernel_rfl) (by kernel_rfl) (fun _ _ _ h => h) (by rfl) (fun W _ => by go_simp) hHeld ?_
  simp only [Act.put, List.setIfInBounds_toArray, List.set_cons_zero, List.set_cons_succ]
  refine held_take (i := 10) (d := 4) (v := .int .i64 0) rfl rfl (by kernel_rfl) (by kernel_rfl) (by kernel_rfl) (fun _ _ _ h => h) (by rfl) (fun W _ => by go_simp) hHeld ?_
  simp only [Act.put, List.setIfInBounds_toArray, List.set_cons_zero, List.set_cons_succ]
  refine held_take (i := 11) (d := 5) (v := .int .i64 16) rfl rfl (by kernel_rfl) (by kernel_rfl) (by kernel_rfl) (fun _ _ _ h => h) (by rfl) (fun W _ => by go_simp) hHeld ?_
  simp only [Act.put, List.setIfInBounds_toArray, List.set_cons_zero, List.set_cons_succ]
  refine wpAnyH_done (by kernel_rfl) ?_ _
  clear hHeld
  have HB := Lib.hid (HBK.out _ _ _ HT3.out)
  clear HT0 HT1 HT2 HT3 HC0 HC1 HC2 HC3 HBK HTQ HC HZ
  go_wp2
  go_ret
  exact ⟨rfl, HB.out⟩
end Go.Proofs.Ytfhpdjlppblkcaa
