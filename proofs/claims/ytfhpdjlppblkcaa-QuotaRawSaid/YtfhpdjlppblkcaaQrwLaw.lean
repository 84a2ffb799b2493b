/-
  The law QuotaRaw as a walk: called with any arguments of its types it returns true. No conditions.
-/
import Derived.Test.YtfhpdjlppblkcaaQbaLaw
namespace Go.Proofs.Ytfhpdjlppblkcaa
open Go.ChangeShapes Go.WideShapes Go.RowKit
set_option linter.unusedVariables false
set_option linter.unusedSimpArgs false
set_option maxHeartbeats 8000000
set_option maxRecDepth 100000

/-- The elements of the list that the law makes. -/
theorem elem_q {ab ao ah bb bo bh cb co ch : Int} (ha : Q3.In ⟨ab, ao, ah⟩) (hb : Q3.In ⟨bb, bo, bh⟩) (hc : Q3.In ⟨cb, co, ch⟩) {i : Nat} (hi : i < 4) : ∃ xb xo xh, Q3.In ⟨xb, xo, xh⟩ ∧
    (#[.int .i64 ab, .int .i64 ao, .int .i64 ah, .int .i64 bb, .int .i64 bo, .int .i64 bh, .int .i64 cb, .int .i64 co, .int .i64 ch, .int .i64 ab, .int .i64 ao, .int .i64 ah] : Array Value)[i * 3]? = some (.int .i64 xb) ∧ (#[.int .i64 ab, .int .i64 ao, .int .i64 ah, .int .i64 bb, .int .i64 bo, .int .i64 bh, .int .i64 cb, .int .i64 co, .int .i64 ch, .int .i64 ab, .int .i64 ao, .int .i64 ah] : Array Value)[i * 3 + 1]? = some (.int .i64 xo) ∧ (#[.int .i64 ab, .int .i64 ao, .int .i64 ah, .int .i64 bb, .int .i64 bo, .int .i64 bh, .int .i64 cb, .int .i64 co, .int .i64 ch, .int .i64 ab, .int .i64 ao, .int .i64 ah] : Array Value)[i * 3 + 2]? = some (.int .i64 xh) := by
  obtain rfl | rfl | rfl | rfl : i = 0 ∨ i = 1 ∨ i = 2 ∨ i = 3 := by omega
  · exact ⟨ab, ao, ah, ha, rfl, rfl, rfl⟩
  · exact ⟨bb, bo, bh, hb, rfl, rfl, rfl⟩
  · exact ⟨cb, co, ch, hc, rfl, rfl, rfl⟩
  · exact ⟨ab, ao, ah, ha, rfl, rfl, rfl⟩
theorem quotaRaw_walk (l a b c : Q3) (pl ql : Int) (w : World) (hl : l.In) (ha : a.In) (hb : b.In) (hc : c.In) (hp : (Lit.int .i64 pl).wf = true) (hq : (Lit.int .i64 ql).wf = true) :
    Calls Try.prog 4 #[l.val, a.val, b.val, c.val, .int .i64 pl, .int .i64 ql] w fun e w' => e = .returned (.bool true) ∧ Below w.heap.size w w' := by
  obtain ⟨lb, lo, lh⟩ := l
  obtain ⟨ab, ao, ah⟩ := a
  obtain ⟨bb, bo, bh⟩ := b
  obtain ⟨cb, co, ch⟩ := c
  have HLI := Lib.hid hl
  have HRP : Hid (Ri pl) := Lib.hid hp
  have HRQ : Hid (Ri ql) := Lib.hid hq
  have HEL := Lib.hid (fun (i : Nat) (hi : i < 4) => elem_q ha hb hc hi)
  unfold Q3.val
  simp only
  have hs0 : (w.alloc (.cells #[.int .i64 lb, .int .i64 lo, .int .i64 lh] 25)).heap.size = w.heap.size + 1 := by simp
  have hs1 : ((w.alloc (.cells #[.int .i64 lb, .int .i64 lo, .int .i64 lh] 25)).alloc (.cells #[.int .i64 ab, .int .i64 ao, .int .i64 ah] 25)).heap.size = w.heap.size + 1 + 1 := by simp
  have hs2 : (((w.alloc (.cells #[.int .i64 lb, .int .i64 lo, .int .i64 lh] 25)).alloc (.cells #[.int .i64 ab, .int .i64 ao, .int .i64 ah] 25)).alloc (.cells #[.int .i64 bb, .int .i64 bo, .int .i64 bh] 25)).heap.size = w.heap.size + 1 + 1 + 1 := by simp
  have hs3 : ((((w.alloc (.cells #[.int .i64 lb, .int .i64 lo, .int .i64 lh] 25)).alloc (.cells #[.int .i64 ab, .int .i64 ao, .int .i64 ah] 25)).alloc (.cells #[.int .i64 bb, .int .i64 bo, .int .i64 bh] 25)).alloc (.cells #[.int .i64 cb, .int .i64 co, .int .i64 ch] 25)).heap.size = w.heap.size + 1 + 1 + 1 + 1 := by simp
  have k0 : ((((w.alloc (.cells #[.int .i64 lb, .int .i64 lo, .int .i64 lh] 25)).alloc (.cells #[.int .i64 ab, .int .i64 ao, .int .i64 ah] 25)).alloc (.cells #[.int .i64 bb, .int .i64 bo, .int .i64 bh] 25)).alloc (.cells #[.int .i64 cb, .int .i64 co, .int .i64 ch] 25)).heap[w.heap.size]? = some (.cells #[.int .i64 lb, .int .i64 lo, .int .i64 lh] 25 (0, 0)) := by
    rw [Below.heap_alloc _ _ _ (by omega), Below.heap_alloc _ _ _ (by omega), Below.heap_alloc _ _ _ (by omega)]
    exact heap_alloc_new w _
  have k1 : ((((w.alloc (.cells #[.int .i64 lb, .int .i64 lo, .int .i64 lh] 25)).alloc (.cells #[.int .i64 ab, .int .i64 ao, .int .i64 ah] 25)).alloc (.cells #[.int .i64 bb, .int .i64 bo, .int .i64 bh] 25)).alloc (.cells #[.int .i64 cb, .int .i64 co, .int .i64 ch] 25)).heap[w.heap.size + 1]? = some (.cells #[.int .i64 ab, .int .i64 ao, .int .i64 ah] 25 (0, 0)) := by
    rw [Below.heap_alloc _ _ _ (by omega), Below.heap_alloc _ _ _ (by omega)]
    have := heap_alloc_new (w.alloc (.cells #[.int .i64 lb, .int .i64 lo, .int .i64 lh] 25)) (.cells #[.int .i64 ab, .int .i64 ao, .int .i64 ah] 25)
    rw [hs0] at this
    exact this
  have k2 : ((((w.alloc (.cells #[.int .i64 lb, .int .i64 lo, .int .i64 lh] 25)).alloc (.cells #[.int .i64 ab, .int .i64 ao, .int .i64 ah] 25)).alloc (.cells #[.int .i64 bb, .int .i64 bo, .int .i64 bh] 25)).alloc (.cells #[.int .i64 cb, .int .i64 co, .int .i64 ch] 25)).heap[w.heap.size + 1 + 1]? = some (.cells #[.int .i64 bb, .int .i64 bo, .int .i64 bh] 25 (0, 0)) := by
    rw [Below.heap_alloc _ _ _ (by omega)]
    have := heap_alloc_new ((w.alloc (.cells #[.int .i64 lb, .int .i64 lo, .int .i64 lh] 25)).alloc (.cells #[.int .i64 ab, .int .i64 ao, .int .i64 ah] 25)) (.cells #[.int .i64 bb, .int .i64 bo, .int .i64 bh] 25)
    rw [hs1] at this
    exact this
  have k3 : ((((w.alloc (.cells #[.int .i64 lb, .int .i64 lo, .int .i64 lh] 25)).alloc (.cells #[.int .i64 ab, .int .i64 ao, .int .i64 ah] 25)).alloc (.cells #[.int .i64 bb, .int .i64 bo, .int .i64 bh] 25)).alloc (.cells #[.int .i64 cb, .int .i64 co, .int .i64 ch] 25)).heap[w.heap.size + 1 + 1 + 1]? = some (.cells #[.int .i64 cb, .int .i64 co, .int .i64 ch] 25 (0, 0)) := by
    have := heap_alloc_new (((w.alloc (.cells #[.int .i64 lb, .int .i64 lo, .int .i64 lh] 25)).alloc (.cells #[.int .i64 ab, .int .i64 ao, .int .i64 ah] 25)).alloc (.cells #[.int .i64 bb, .int .i64 bo, .int .i64 bh] 25)) (.cells #[.int .i64 cb, .int .i64 co, .int .i64 ch] 25)
    rw [hs2] at this
    exact this
  have hbw : Below w.heap.size w ((((w.alloc (.cells #[.int .i64 lb, .int .i64 lo, .int .i64 lh] 25)).alloc (.cells #[.int .i64 ab, .int .i64 ao, .int .i64 ah] 25)).alloc (.cells #[.int .i64 bb, .int .i64 bo, .int .i64 bh] 25)).alloc (.cells #[.int .i64 cb, .int .i64 co, .int .i64 ch] 25)) := ((((Below.refl _ _).alloc (Nat.le_refl _) _).alloc (by omega) _).alloc (by omega) _).alloc (by omega) _
  have HB := Lib.hid hbw
  have HKK := Lib.hid (And.intro k0 (And.intro k1 (And.intro k2 k3)))
  have HN := Lib.hid (newQ_any ⟨lb, lo, lh⟩ ((((w.alloc (.cells #[.int .i64 lb, .int .i64 lo, .int .i64 lh] 25)).alloc (.cells #[.int .i64 ab, .int .i64 ao, .int .i64 ah] 25)).alloc (.cells #[.int .i64 bb, .int .i64 bo, .int .i64 bh] 25)).alloc (.cells #[.int .i64 cb, .int .i64 co, .int .i64 ch] 25)) (fun _ => 0) 1)
  unfold Q3.val at HN
  simp only at HN
  clear hl ha hb hc hp hq hs0 hs1 hs2 hs3 k0 k1 k2 k3 hbw
  go_enter Try.func4, Try.ntmps4
  go_wp2_with fail
  generalize (((w.alloc (.cells #[.int .i64 lb, .int .i64 lo, .int .i64 lh] 25)).alloc (.cells #[.int .i64 ab, .int .i64 ao, .int .i64 ah] 25)).alloc (.cells #[.int .i64 bb, .int .i64 bo, .int .i64 bh] 25)).alloc (.cells #[.int .i64 cb, .int .i64 co, .int .i64 ch] 25) = w4 at *
  refine HN.out.mono ?_
  rintro e wa ⟨p, rfl, hp, hL, hb⟩
  have ha0 := (hb.block _ (Array.getElem?_eq_some_iff.1 HKK.out.1).1).trans HKK.out.1
  have ha1 := (hb.block _ (Array.getElem?_eq_some_iff.1 HKK.out.2.1).1).trans HKK.out.2.1
  have ha2 := (hb.block _ (Array.getElem?_eq_some_iff.1 HKK.out.2.2.1).1).trans HKK.out.2.2.1
  have ha3 := (hb.block _ (Array.getElem?_eq_some_iff.1 HKK.out.2.2.2).1).trans HKK.out.2.2.2
  obtain ⟨i0, i1, i2⟩ := cells3 ha0
  obtain ⟨j0, j1, j2⟩ := cells3 ha1
  obtain ⟨m0, m1, m2⟩ := cells3 ha2
  obtain ⟨n0, n1, n2⟩ := cells3 ha3
  have j0u := cell_under j0 (.cells #[.int .i64 lb, .int .i64 lo, .int .i64 lh, .slice none 0 0] 31)
  have j1u := cell_under j1 (.cells #[.int .i64 lb, .int .i64 lo, .int .i64 lh, .slice none 0 0] 31)
  have j2u := cell_under j2 (.cells #[.int .i64 lb, .int .i64 lo, .int .i64 lh, .slice none 0 0] 31)
  have m0u := cell_under m0 (.cells #[.int .i64 lb, .int .i64 lo, .int .i64 lh, .slice none 0 0] 31)
  have m1u := cell_under m1 (.cells #[.int .i64 lb, .int .i64 lo, .int .i64 lh, .slice none 0 0] 31)
  have m2u := cell_under m2 (.cells #[.int .i64 lb, .int .i64 lo, .int .i64 lh, .slice none 0 0] 31)
  have n0u := cell_under n0 (.cells #[.int .i64 lb, .int .i64 lo, .int .i64 lh, .slice none 0 0] 31)
  have n1u := cell_under n1 (.cells #[.int .i64 lb, .int .i64 lo, .int .i64 lh, .slice none 0 0] 31)
  have n2u := cell_under n2 (.cells #[.int .i64 lb, .int .i64 lo, .int .i64 lh, .slice none 0 0] 31)
  have hm := Ts.made hL hb
  simp only at hm
  have hbs : Below (wa.alloc (.cells #[.int .i64 lb, .int .i64 lo, .int .i64 lh, .slice none 0 0] 31)).heap.size (wa.alloc (.cells #[.int .i64 lb, .int .i64 lo, .int .i64 lh, .slice none 0 0] 31)) ((wa.alloc (.cells #[.int .i64 lb, .int .i64 lo, .int .i64 lh, .slice none 0 0] 31)).alloc (.cells #[.int .i64 ab, .int .i64 ao, .int .i64 ah, .int .i64 bb, .int .i64 bo, .int .i64 bh, .int .i64 cb, .int .i64 co, .int .i64 ch, .int .i64 ab, .int .i64 ao, .int .i64 ah] 25)) := (Below.refl _ _).alloc (Nat.le_refl _) _
  obtain ⟨c1, hT, hz, hback⟩ := hm.base hbs
  have hsl := heap_alloc_new (wa.alloc (.cells #[.int .i64 lb, .int .i64 lo, .int .i64 lh, .slice none 0 0] 31)) (.cells #[.int .i64 ab, .int .i64 ao, .int .i64 ah, .int .i64 bb, .int .i64 bo, .int .i64 bh, .int .i64 cb, .int .i64 co, .int .i64 ch, .int .i64 ab, .int .i64 ao, .int .i64 ah] 25)
  have hsz : (wa.alloc (.cells #[.int .i64 lb, .int .i64 lo, .int .i64 lh, .slice none 0 0] 31)).heap.size = wa.heap.size + 1 := by simp
  rw [hsz] at hsl
  have HSL := Lib.hid hsl
  have HZS : Hid (c1 (wa.heap.size + 1) = 0) := Lib.hid (hz _ (by omega))
  have HBK := Lib.hid (fun (M : Nat) (f' g' : Int → Q3) (w5 : World) (h : Ts _ c1 M p wa.heap.size ⟨lb, lo, lh⟩ f' g' w5) => (hback h).below)
  have HT1 : Hid (∃ f, Ts ((wa.alloc (.cells #[.int .i64 lb, .int .i64 lo, .int .i64 lh, .slice none 0 0] 31)).alloc (.cells #[.int .i64 ab, .int .i64 ao, .int .i64 ah, .int .i64 bb, .int .i64 bo, .int .i64 bh, .int .i64 cb, .int .i64 co, .int .i64 ch, .int .i64 ab, .int .i64 ao, .int .i64 ah] 25)) c1 (4 * 0) p wa.heap.size ⟨lb, lo, lh⟩ f f ((wa.alloc (.cells #[.int .i64 lb, .int .i64 lo, .int .i64 lh, .slice none 0 0] 31)).alloc (.cells #[.int .i64 ab, .int .i64 ao, .int .i64 ah, .int .i64 bb, .int .i64 bo, .int .i64 bh, .int .i64 cb, .int .i64 co, .int .i64 ch, .int .i64 ab, .int .i64 ao, .int .i64 ah] 25))) := Lib.hid ⟨_, hT⟩
  clear HN hL hb hp hm hbs hT hz hback hsl hsz ha0 ha1 ha2 ha3 HKK
  go_wp2
  generalize (wa.alloc (.cells #[.int .i64 lb, .int .i64 lo, .int .i64 lh, .slice none 0 0] 31)).alloc (.cells #[.int .i64 ab, .int .i64 ao, .int .i64 ah, .int .i64 bb, .int .i64 bo, .int .i64 bh, .int .i64 cb, .int .i64 co, .int .i64 ch, .int .i64 ab, .int .i64 ao, .int .i64 ah] 25) = ws at *
  generalize wa.heap.size + 1 = sb at *
  generalize wa.heap.size = m at *
  generalize Q3.mk lb lo lh = l at *
  clear i0 i1 i2 j0 j1 j2 m0 m1 m2 n0 n1 n2 j0u j1u j2u m0u m1u m2u n0u n1u n2u
  go_loopw [28] (fun kv wr => ∃ i : Nat, i ≤ 4 ∧ kv = .int .i64 i ∧ Hid (∃ f, Ts ws c1 (4 * i) p m l f f wr)) (fun kv _ => 4 - (intOf kv).toNat)
  case atStart => exact ⟨0, by omega, rfl, HT1⟩
  case round =>
    rename World => wv
    obtain ⟨i, hi, rfl, hh⟩ := hrel
    have hi0 : (0 : Int) ≤ (i : Int) := by omega
    by_cases hin : i < 4
    · have hi1 : (i : Int) < 4 := by omega
      obtain ⟨xb, xo, xh, hxi, e0, e1, e2⟩ := HEL.out i hin
      obtain ⟨f, hT⟩ := hh.out
      have hsv := hT.kz.heap HZS.out HSL.out
      have g0 := (cell_of_row wv sb (i * 3) _ _ _ hsv).trans e0
      have g1 := (cell_of_row wv sb (i * 3 + 1) _ _ _ hsv).trans e1
      have g2 := (cell_of_row wv sb (i * 3 + 2) _ _ _ hsv).trans e2
      have HXI := Lib.hid hxi
      obtain ⟨c2, hT2, hz2, hback2⟩ := hT.base (below3 wv (.int .i64 xb) (.int .i64 xo) (.int .i64 xh) 25)
      have HBK2 := Lib.hid (fun (M : Nat) (f' g' : Int → Q3) (w5 : World) (h : Ts _ c2 M p m l f' g' w5) => hback2 h)
      have HZX : Hid (c2 wv.heap.size = 0) := Lib.hid (hz2 _ (Nat.le_refl _))
      have HCX : Hid ((wv.alloc (.cells #[.int .i64 xb, .int .i64 xo, .int .i64 xh] 25)).heap[wv.heap.size]? = some (.cells #[.int .i64 xb, .int .i64 xo, .int .i64 xh] 25 (0, 0))) := Lib.hid (heap_alloc_new wv _)
      have HT2 := Lib.hid hT2
      obtain ⟨E1, hE1⟩ : ∃ E, fitE l (f pl) ⟨xb, xo, xh⟩ = E := ⟨_, rfl⟩
      obtain ⟨E2, hE2⟩ : ∃ E, subE (addF l pl ⟨xb, xo, xh⟩ f ql) ⟨xb, xo, xh⟩ = E := ⟨_, rfl⟩
      obtain ⟨⟨yb, yo, yh⟩, hy⟩ : ∃ x, addF l pl ⟨xb, xo, xh⟩ f pl = x := ⟨_, rfl⟩
      obtain ⟨⟨zb, zo, zh⟩, hzz⟩ : ∃ x, subF ql ⟨xb, xo, xh⟩ (addF l pl ⟨xb, xo, xh⟩ f) ql = x := ⟨_, rfl⟩
      have HE1 := Lib.hid hE1
      have HE2 := Lib.hid hE2
      have HY := Lib.hid hy
      have HZ := Lib.hid hzz
      clear hh e0 e1 e2 hT hsv hxi hT2 hz2 hback2 hE1 hE2 hy hzz
      go_wp2_with fail
      clear g0 g1 g2
      generalize wv.alloc (.cells #[.int .i64 xb, .int .i64 xo, .int .i64 xh] 25) = wx at *
      generalize wv.heap.size = bx at *
      have HT0 := Lib.hid (HT2.out.go (below_drewN (Below.refl wx.heap.size wx) 1))
      have HC0 : Hid (wx.drew.heap[bx]? = some (.cells #[.int .i64 xb, .int .i64 xo, .int .i64 xh] 25 (0, 0))) := HCX
      refine wp_region_hand 49 (fun W => W.heap[bx]? = some (.cells #[.int .i64 xb, .int .i64 xo, .int .i64 xh] 25 (0, 0))) (by kernel_rfl) (by kernel_rfl) ?_
      rw [show Array.replicate 49 false = #[false, false, false, false, false, false, false, false, false, false, false, false, false, false, false, false, false, false, false, false, false, false, false, false, false, false, false, false, false, false, false, false, false, false, false, false, false, false, false, false, false, false, false, false, false, false, false, false, false] from rfl]
      have hHeld := HC0.out
      refine held_take (i := 0) (d := 32) (v := .pointer (some ⟨p, 0, none⟩)) rfl rfl (by kernel_rfl) (by kernel_rfl) (by kernel_rfl) (fun _ _ _ h => h) (by rfl) (fun W _ => run_move_is (.tmp 13) rfl rfl W) hHeld ?_
      simp only [Act.put, List.setIfInBounds_toArray, List.set_cons_zero, List.set_cons_succ]
      refine held_take (i := 1) (d := 33) (v := .int .i64 pl) rfl rfl (by kernel_rfl) (by kernel_rfl) (by kernel_rfl) (fun _ _ _ h => h) (by rfl) (fun W _ => run_move_is (.tmp 4) rfl rfl W) hHeld ?_
      simp only [Act.put, List.setIfInBounds_toArray, List.set_cons_zero, List.set_cons_succ]
      refine held_take (i := 2) (d := 34) (v := .agg #[.int .i64 xb, .int .i64 xo, .int .i64 xh]) rfl rfl (by kernel_rfl) (by kernel_rfl) (by kernel_rfl) (fun _ _ _ h => h) (by rfl) (fun W hS => by obtain ⟨g0, g1, g2⟩ := cells3 hS; go_simp) hHeld ?_
      simp only [Act.put, List.setIfInBounds_toArray, List.set_cons_zero, List.set_cons_succ]
      refine held_take (i := 4) (d := 36) (v := .pointer (some ⟨m, 0, none⟩)) rfl rfl (by kernel_rfl) (by kernel_rfl) (by kernel_rfl) (fun _ _ _ h => h) (by rfl) (fun W _ => run_move_is (.tmp 14) rfl rfl W) hHeld ?_
      simp only [Act.put, List.setIfInBounds_toArray, List.set_cons_zero, List.set_cons_succ]
      refine held_take (i := 5) (d := 37) (v := .int .i64 pl) rfl rfl (by kernel_rfl) (by kernel_rfl) (by kernel_rfl) (fun _ _ _ h => h) (by rfl) (fun W _ => run_move_is (.tmp 4) rfl rfl W) hHeld ?_
      simp only [Act.put, List.setIfInBounds_toArray, List.set_cons_zero, List.set_cons_succ]
      refine held_take (i := 6) (d := 38) (v := .agg #[.int .i64 xb, .int .i64 xo, .int .i64 xh]) rfl rfl (by kernel_rfl) (by kernel_rfl) (by kernel_rfl) (fun _ _ _ h => h) (by rfl) (fun W hS => by obtain ⟨g0, g1, g2⟩ := cells3 hS; go_simp) hHeld ?_
      simp only [Act.put, List.setIfInBounds_toArray, List.set_cons_zero, List.set_cons_succ]
      have HCL := Lib.hid (HT0.out.fitsL' HLI.out HRP.out HE1.out)
      refine held_one (i := 3) (by kernel_rfl) ?_
      refine held_callX (d := 35) rfl rfl (by rfl) rfl (by kernel_rfl) Try.func13 (by kernel_rfl) HCL.out ?_
      rintro e v1 ⟨rfl, hT1⟩
      have HT1 := Lib.hid hT1
      have HC1 : Hid (v1.heap[bx]? = some (.cells #[.int .i64 xb, .int .i64 xo, .int .i64 xh] 25 (0, 0))) := Lib.hid (hT1.kz.heap HZX.out HCX.out)
      clear hT1
      refine ⟨_, rfl, ?_⟩
      clear HCL hHeld
      have hHeld := HC1.out
      refine ⟨hHeld, ?_⟩
      simp only [Act.put, List.setIfInBounds_toArray, List.set_cons_zero, List.set_cons_succ]
      have HCL := Lib.hid (HT1.out.fitsR' HLI.out HXI.out HE1.out)
      refine held_one (i := 7) (by kernel_rfl) ?_
      refine held_callX (d := 39) rfl rfl (by rfl) rfl (by kernel_rfl) Try.func14 (by kernel_rfl) HCL.out ?_
      rintro e v2 ⟨rfl, hT2⟩
      have HT2 := Lib.hid hT2
      have HC2 : Hid (v2.heap[bx]? = some (.cells #[.int .i64 xb, .int .i64 xo, .int .i64 xh] 25 (0, 0))) := Lib.hid (hT2.kz.heap HZX.out HCX.out)
      clear hT2
      refine ⟨_, rfl, ?_⟩
      clear HCL hHeld
      have hHeld := HC2.out
      refine ⟨hHeld, ?_⟩
      simp only [Act.put, List.setIfInBounds_toArray, List.set_cons_zero, List.set_cons_succ]
      refine held_take (i := 8) (d := 40) (v := .bool false) rfl rfl (by kernel_rfl) (by kernel_rfl) (by kernel_rfl) (fun _ _ _ h => h) (by rfl) (fun W _ => by go_simp) hHeld ?_
      simp only [Act.put, List.setIfInBounds_toArray, List.set_cons_zero, List.set_cons_succ]
      refine held_take (i := 9) (d := 41) (v := .bool false) rfl rfl (by kernel_rfl) (by kernel_rfl) (by kernel_rfl) (fun _ _ _ h => h) (by rfl) (fun W _ => run_move_is (.tmp 40) rfl rfl W) hHeld ?_
      simp only [Act.put, List.setIfInBounds_toArray, List.set_cons_zero, List.set_cons_succ]
      refine held_take (i := 10) (d := 42) (v := .pointer (some ⟨p, 0, none⟩)) rfl rfl (by kernel_rfl) (by kernel_rfl) (by kernel_rfl) (fun _ _ _ h => h) (by rfl) (fun W _ => run_move_is (.tmp 13) rfl rfl W) hHeld ?_
      simp only [Act.put, List.setIfInBounds_toArray, List.set_cons_zero, List.set_cons_succ]
      refine held_take (i := 11) (d := 43) (v := .int .i64 pl) rfl rfl (by kernel_rfl) (by kernel_rfl) (by kernel_rfl) (fun _ _ _ h => h) (by rfl) (fun W _ => run_move_is (.tmp 4) rfl rfl W) hHeld ?_
      simp only [Act.put, List.setIfInBounds_toArray, List.set_cons_zero, List.set_cons_succ]
      refine held_take (i := 12) (d := 44) (v := .agg #[.int .i64 xb, .int .i64 xo, .int .i64 xh]) rfl rfl (by kernel_rfl) (by kernel_rfl) (by kernel_rfl) (fun _ _ _ h => h) (by rfl) (fun W hS => by obtain ⟨g0, g1, g2⟩ := cells3 hS; go_simp) hHeld ?_
      simp only [Act.put, List.setIfInBounds_toArray, List.set_cons_zero, List.set_cons_succ]
      refine held_take (i := 14) (d := 46) (v := .pointer (some ⟨m, 0, none⟩)) rfl rfl (by kernel_rfl) (by kernel_rfl) (by kernel_rfl) (fun _ _ _ h => h) (by rfl) (fun W _ => run_move_is (.tmp 14) rfl rfl W) hHeld ?_
      simp only [Act.put, List.setIfInBounds_toArray, List.set_cons_zero, List.set_cons_succ]
      refine held_take (i := 15) (d := 47) (v := .int .i64 pl) rfl rfl (by kernel_rfl) (by kernel_rfl) (by kernel_rfl) (fun _ _ _ h => h) (by rfl) (fun W _ => run_move_is (.tmp 4) rfl rfl W) hHeld ?_
      simp only [Act.put, List.setIfInBounds_toArray, List.set_cons_zero, List.set_cons_succ]
      refine held_take (i := 16) (d := 48) (v := .agg #[.int .i64 xb, .int .i64 xo, .int .i64 xh]) rfl rfl (by kernel_rfl) (by kernel_rfl) (by kernel_rfl) (fun _ _ _ h => h) (by rfl) (fun W hS => by obtain ⟨g0, g1, g2⟩ := cells3 hS; go_simp) hHeld ?_
      simp only [Act.put, List.setIfInBounds_toArray, List.set_cons_zero, List.set_cons_succ]
      have HCL := Lib.hid (HT2.out.addL' HLI.out HRP.out (by omega) HE1.out)
      refine held_one (i := 13) (by kernel_rfl) ?_
      refine held_callX (d := 45) rfl rfl (by rfl) rfl (by kernel_rfl) Try.func15 (by kernel_rfl) HCL.out ?_
      rintro e v3 ⟨rfl, hT3⟩
      have HT3 := Lib.hid hT3
      have HC3 : Hid (v3.heap[bx]? = some (.cells #[.int .i64 xb, .int .i64 xo, .int .i64 xh] 25 (0, 0))) := Lib.hid (hT3.kz.heap HZX.out HCX.out)
      clear hT3
      refine ⟨_, rfl, ?_⟩
      clear HCL hHeld
      have hHeld := HC3.out
      refine ⟨hHeld, ?_⟩
      simp only [Act.put, List.setIfInBounds_toArray, List.set_cons_zero, List.set_cons_succ]
      have HCL := Lib.hid (HT3.out.addR' HLI.out HXI.out (by omega) HE1.out)
      refine held_one (i := 17) (by kernel_rfl) ?_
      refine held_callX (d := 49) rfl rfl (by rfl) rfl (by kernel_rfl) Try.func16 (by kernel_rfl) HCL.out ?_
      rintro e v4 ⟨rfl, hT4⟩
      have HT4 := Lib.hid hT4
      have HC4 : Hid (v4.heap[bx]? = some (.cells #[.int .i64 xb, .int .i64 xo, .int .i64 xh] 25 (0, 0))) := Lib.hid (hT4.kz.heap HZX.out HCX.out)
      clear hT4
      refine ⟨_, rfl, ?_⟩
      clear HCL hHeld
      have hHeld := HC4.out
      refine ⟨hHeld, ?_⟩
      simp only [Act.put, List.setIfInBounds_toArray, List.set_cons_zero, List.set_cons_succ]
      refine held_take (i := 18) (d := 50) (v := .bool false) rfl rfl (by kernel_rfl) (by kernel_rfl) (by kernel_rfl) (fun _ _ _ h => h) (by rfl) (fun W _ => by go_simp) hHeld ?_
      simp only [Act.put, List.setIfInBounds_toArray, List.set_cons_zero, List.set_cons_succ]
      refine held_take (i := 19) (d := 51) (v := .bool false) rfl rfl (by kernel_rfl) (by kernel_rfl) (by kernel_rfl) (fun _ _ _ h => h) (by rfl) (fun W _ => by go_simp) hHeld ?_
      simp only [Act.put, List.setIfInBounds_toArray, List.set_cons_zero, List.set_cons_succ]
      refine held_take (i := 20) (d := 52) (v := .bool false) rfl rfl (by kernel_rfl) (by kernel_rfl) (by kernel_rfl) (fun _ _ _ h => h) (by rfl) (fun W _ => run_move_is (.tmp 51) rfl rfl W) hHeld ?_
      simp only [Act.put, List.setIfInBounds_toArray, List.set_cons_zero, List.set_cons_succ]
      refine held_take (i := 21) (d := 53) (v := .pointer (some ⟨p, 0, none⟩)) rfl rfl (by kernel_rfl) (by kernel_rfl) (by kernel_rfl) (fun _ _ _ h => h) (by rfl) (fun W _ => run_move_is (.tmp 13) rfl rfl W) hHeld ?_
      simp only [Act.put, List.setIfInBounds_toArray, List.set_cons_zero, List.set_cons_succ]
      refine held_take (i := 22) (d := 54) (v := .int .i64 pl) rfl rfl (by kernel_rfl) (by kernel_rfl) (by kernel_rfl) (fun _ _ _ h => h) (by rfl) (fun W _ => run_move_is (.tmp 4) rfl rfl W) hHeld ?_
      simp only [Act.put, List.setIfInBounds_toArray, List.set_cons_zero, List.set_cons_succ]
      refine held_take (i := 24) (d := 56) (v := .pointer (some ⟨m, 0, none⟩)) rfl rfl (by kernel_rfl) (by kernel_rfl) (by kernel_rfl) (fun _ _ _ h => h) (by rfl) (fun W _ => run_move_is (.tmp 14) rfl rfl W) hHeld ?_
      simp only [Act.put, List.setIfInBounds_toArray, List.set_cons_zero, List.set_cons_succ]
      refine held_take (i := 25) (d := 57) (v := .int .i64 pl) rfl rfl (by kernel_rfl) (by kernel_rfl) (by kernel_rfl) (fun _ _ _ h => h) (by rfl) (fun W _ => run_move_is (.tmp 4) rfl rfl W) hHeld ?_
      simp only [Act.put, List.setIfInBounds_toArray, List.set_cons_zero, List.set_cons_succ]
      have HCL := Lib.hid (HT4.out.getL' HRP.out HY.out)
      refine held_one (i := 23) (by kernel_rfl) ?_
      refine held_callX (d := 55) rfl rfl (by rfl) rfl (by kernel_rfl) Try.func10 (by kernel_rfl) HCL.out ?_
      rintro e v5 ⟨rfl, hT5⟩
      have HT5 := Lib.hid hT5
      have HC5 : Hid (v5.heap[bx]? = some (.cells #[.int .i64 xb, .int .i64 xo, .int .i64 xh] 25 (0, 0))) := Lib.hid (hT5.kz.heap HZX.out HCX.out)
      clear hT5
      refine ⟨_, rfl, ?_⟩
      clear HCL hHeld
      have hHeld := HC5.out
      refine ⟨hHeld, ?_⟩
      simp only [Act.put, List.setIfInBounds_toArray, List.set_cons_zero, List.set_cons_succ]
      have HCL := Lib.hid (HT5.out.getR' HY.out)
      refine held_one (i := 26) (by kernel_rfl) ?_
      refine held_callX (d := 58) rfl rfl (by rfl) rfl (by kernel_rfl) Try.func11 (by kernel_rfl) HCL.out ?_
      rintro e v6 ⟨rfl, hT6⟩
      have HT6 := Lib.hid hT6
      have HC6 : Hid (v6.heap[bx]? = some (.cells #[.int .i64 xb, .int .i64 xo, .int .i64 xh] 25 (0, 0))) := Lib.hid (hT6.kz.heap HZX.out HCX.out)
      clear hT6
      refine ⟨_, rfl, ?_⟩
      clear HCL hHeld
      have hHeld := HC6.out
      refine ⟨hHeld, ?_⟩
      simp only [Act.put, List.setIfInBounds_toArray, List.set_cons_zero, List.set_cons_succ]
      refine held_take (i := 27) (d := 59) (v := .bool false) rfl rfl (by kernel_rfl) (by kernel_rfl) (by kernel_rfl) (fun _ _ _ h => h) (by rfl) (fun W _ => by have heq := eq_q3 yb yo yh yb yo yh; go_simp) hHeld ?_
      simp only [Act.put, List.setIfInBounds_toArray, List.set_cons_zero, List.set_cons_succ]
      refine held_take (i := 28) (d := 60) (v := .bool false) rfl rfl (by kernel_rfl) (by kernel_rfl) (by kernel_rfl) (fun _ _ _ h => h) (by rfl) (fun W _ => by go_simp) hHeld ?_
      simp only [Act.put, List.setIfInBounds_toArray, List.set_cons_zero, List.set_cons_succ]
      refine held_take (i := 29) (d := 61) (v := .bool false) rfl rfl (by kernel_rfl) (by kernel_rfl) (by kernel_rfl) (fun _ _ _ h => h) (by rfl) (fun W _ => run_move_is (.tmp 60) rfl rfl W) hHeld ?_
      simp only [Act.put, List.setIfInBounds_toArray, List.set_cons_zero, List.set_cons_succ]
      refine held_take (i := 30) (d := 62) (v := .pointer (some ⟨p, 0, none⟩)) rfl rfl (by kernel_rfl) (by kernel_rfl) (by kernel_rfl) (fun _ _ _ h => h) (by rfl) (fun W _ => run_move_is (.tmp 13) rfl rfl W) hHeld ?_
      simp only [Act.put, List.setIfInBounds_toArray, List.set_cons_zero, List.set_cons_succ]
      refine held_take (i := 31) (d := 63) (v := .int .i64 ql) rfl rfl (by kernel_rfl) (by kernel_rfl) (by kernel_rfl) (fun _ _ _ h => h) (by rfl) (fun W _ => run_move_is (.tmp 5) rfl rfl W) hHeld ?_
      simp only [Act.put, List.setIfInBounds_toArray, List.set_cons_zero, List.set_cons_succ]
      refine held_take (i := 32) (d := 64) (v := .agg #[.int .i64 xb, .int .i64 xo, .int .i64 xh]) rfl rfl (by kernel_rfl) (by kernel_rfl) (by kernel_rfl) (fun _ _ _ h => h) (by rfl) (fun W hS => by obtain ⟨g0, g1, g2⟩ := cells3 hS; go_simp) hHeld ?_
      simp only [Act.put, List.setIfInBounds_toArray, List.set_cons_zero, List.set_cons_succ]
      refine held_take (i := 34) (d := 66) (v := .pointer (some ⟨m, 0, none⟩)) rfl rfl (by kernel_rfl) (by kernel_rfl) (by kernel_rfl) (fun _ _ _ h => h) (by rfl) (fun W _ => run_move_is (.tmp 14) rfl rfl W) hHeld ?_
      simp only [Act.put, List.setIfInBounds_toArray, List.set_cons_zero, List.set_cons_succ]
      refine held_take (i := 35) (d := 67) (v := .int .i64 ql) rfl rfl (by kernel_rfl) (by kernel_rfl) (by kernel_rfl) (fun _ _ _ h => h) (by rfl) (fun W _ => run_move_is (.tmp 5) rfl rfl W) hHeld ?_
      simp only [Act.put, List.setIfInBounds_toArray, List.set_cons_zero, List.set_cons_succ]
      refine held_take (i := 36) (d := 68) (v := .agg #[.int .i64 xb, .int .i64 xo, .int .i64 xh]) rfl rfl (by kernel_rfl) (by kernel_rfl) (by kernel_rfl) (fun _ _ _ h => h) (by rfl) (fun W hS => by obtain ⟨g0, g1, g2⟩ := cells3 hS; go_simp) hHeld ?_
      simp only [Act.put, List.setIfInBounds_toArray, List.set_cons_zero, List.set_cons_succ]
      have HCL := Lib.hid (HT6.out.subL' HLI.out HRQ.out (by omega) HXI.out HE2.out)
      refine held_one (i := 33) (by kernel_rfl) ?_
      refine held_callX (d := 65) rfl rfl (by rfl) rfl (by kernel_rfl) Try.func17 (by kernel_rfl) HCL.out ?_
      rintro e v7 ⟨rfl, hT7⟩
      have HT7 := Lib.hid hT7
      have HC7 : Hid (v7.heap[bx]? = some (.cells #[.int .i64 xb, .int .i64 xo, .int .i64 xh] 25 (0, 0))) := Lib.hid (hT7.kz.heap HZX.out HCX.out)
      clear hT7
      refine ⟨_, rfl, ?_⟩
      clear HCL hHeld
      have hHeld := HC7.out
      refine ⟨hHeld, ?_⟩
      simp only [Act.put, List.setIfInBounds_toArray, List.set_cons_zero, List.set_cons_succ]
      have HCL := Lib.hid (HT7.out.subR' HLI.out HXI.out (by omega) HE2.out)
      refine held_one (i := 37) (by kernel_rfl) ?_
      refine held_callX (d := 69) rfl rfl (by rfl) rfl (by kernel_rfl) Try.func18 (by kernel_rfl) HCL.out ?_
      rintro e v8 ⟨rfl, hT8⟩
      have HT8 := Lib.hid hT8
      have HC8 : Hid (v8.heap[bx]? = some (.cells #[.int .i64 xb, .int .i64 xo, .int .i64 xh] 25 (0, 0))) := Lib.hid (hT8.kz.heap HZX.out HCX.out)
      clear hT8
      refine ⟨_, rfl, ?_⟩
      clear HCL hHeld
      have hHeld := HC8.out
      refine ⟨hHeld, ?_⟩
      simp only [Act.put, List.setIfInBounds_toArray, List.set_cons_zero, List.set_cons_succ]
      refine held_take (i := 38) (d := 70) (v := .bool false) rfl rfl (by kernel_rfl) (by kernel_rfl) (by kernel_rfl) (fun _ _ _ h => h) (by rfl) (fun W _ => by go_simp) hHeld ?_
      simp only [Act.put, List.setIfInBounds_toArray, List.set_cons_zero, List.set_cons_succ]
      refine held_take (i := 39) (d := 71) (v := .bool false) rfl rfl (by kernel_rfl) (by kernel_rfl) (by kernel_rfl) (fun _ _ _ h => h) (by rfl) (fun W _ => by go_simp) hHeld ?_
      simp only [Act.put, List.setIfInBounds_toArray, List.set_cons_zero, List.set_cons_succ]
      refine held_take (i := 40) (d := 72) (v := .bool false) rfl rfl (by kernel_rfl) (by kernel_rfl) (by kernel_rfl) (fun _ _ _ h => h) (by rfl) (fun W _ => run_move_is (.tmp 71) rfl rfl W) hHeld ?_
      simp only [Act.put, List.setIfInBounds_toArray, List.set_cons_zero, List.set_cons_succ]
      refine held_take (i := 41) (d := 73) (v := .pointer (some ⟨p, 0, none⟩)) rfl rfl (by kernel_rfl) (by kernel_rfl) (by kernel_rfl) (fun _ _ _ h => h) (by rfl) (fun W _ => run_move_is (.tmp 13) rfl rfl W) hHeld ?_
      simp only [Act.put, List.setIfInBounds_toArray, List.set_cons_zero, List.set_cons_succ]
      refine held_take (i := 42) (d := 74) (v := .int .i64 ql) rfl rfl (by kernel_rfl) (by kernel_rfl) (by kernel_rfl) (fun _ _ _ h => h) (by rfl) (fun W _ => run_move_is (.tmp 5) rfl rfl W) hHeld ?_
      simp only [Act.put, List.setIfInBounds_toArray, List.set_cons_zero, List.set_cons_succ]
      refine held_take (i := 44) (d := 76) (v := .pointer (some ⟨m, 0, none⟩)) rfl rfl (by kernel_rfl) (by kernel_rfl) (by kernel_rfl) (fun _ _ _ h => h) (by rfl) (fun W _ => run_move_is (.tmp 14) rfl rfl W) hHeld ?_
      simp only [Act.put, List.setIfInBounds_toArray, List.set_cons_zero, List.set_cons_succ]
      refine held_take (i := 45) (d := 77) (v := .int .i64 ql) rfl rfl (by kernel_rfl) (by kernel_rfl) (by kernel_rfl) (fun _ _ _ h => h) (by rfl) (fun W _ => run_move_is (.tmp 5) rfl rfl W) hHeld ?_
      simp only [Act.put, List.setIfInBounds_toArray, List.set_cons_zero, List.set_cons_succ]
      have HCL := Lib.hid (HT8.out.getL' HRQ.out HZ.out)
      refine held_one (i := 43) (by kernel_rfl) ?_
      refine held_callX (d := 75) rfl rfl (by rfl) rfl (by kernel_rfl) Try.func10 (by kernel_rfl) HCL.out ?_
      rintro e v9 ⟨rfl, hT9⟩
      have HT9 := Lib.hid hT9
      have HC9 : Hid (v9.heap[bx]? = some (.cells #[.int .i64 xb, .int .i64 xo, .int .i64 xh] 25 (0, 0))) := Lib.hid (hT9.kz.heap HZX.out HCX.out)
      clear hT9
      refine ⟨_, rfl, ?_⟩
      clear HCL hHeld
      have hHeld := HC9.out
      refine ⟨hHeld, ?_⟩
      simp only [Act.put, List.setIfInBounds_toArray, List.set_cons_zero, List.set_cons_succ]
      have HCL := Lib.hid (HT9.out.getR' HZ.out)
      refine held_one (i := 46) (by kernel_rfl) ?_
      refine held_callX (d := 78) rfl rfl (by rfl) rfl (by kernel_rfl) Try.func11 (by kernel_rfl) HCL.out ?_
      rintro e v10 ⟨rfl, hT10⟩
      have HT10 := Lib.hid hT10
      have HC10 : Hid (v10.heap[bx]? = some (.cells #[.int .i64 xb, .int .i64 xo, .int .i64 xh] 25 (0, 0))) := Lib.hid (hT10.kz.heap HZX.out HCX.out)
      clear hT10
      refine ⟨_, rfl, ?_⟩
      clear HCL hHeld
      have hHeld := HC10.out
      refine ⟨hHeld, ?_⟩
      simp only [Act.put, List.setIfInBounds_toArray, List.set_cons_zero, List.set_cons_succ]
      refine held_take (i := 47) (d := 79) (v := .bool false) rfl rfl (by kernel_rfl) (by kernel_rfl) (by kernel_rfl) (fun _ _ _ h => h) (by rfl) (fun W _ => by have heq := eq_q3 zb zo zh zb zo zh; go_simp) hHeld ?_
      simp only [Act.put, List.setIfInBounds_toArray, List.set_cons_zero, List.set_cons_succ]
      refine held_take (i := 48) (d := 80) (v := .bool false) rfl rfl (by kernel_rfl) (by kernel_rfl) (by kernel_rfl) (fun _ _ _ h => h) (by rfl) (fun W _ => by go_simp) hHeld ?_
      simp only [Act.put, List.setIfInBounds_toArray, List.set_cons_zero, List.set_cons_succ]
      refine wpAnyH_done (by kernel_rfl) ?_ _
      clear hHeld
      have HTN : Hid (∃ f, Ts ws c1 (4 * (i + 1)) p m l f f v10) := Lib.hid ⟨_, HBK2.out _ _ _ _ (HT10.out.mono (by omega))⟩
      clear HT0 HC0 HT1 HC1 HT2 HC2 HT3 HC3 HT4 HC4 HT5 HC5 HT6 HC6 HT7 HC7 HT8 HC8 HT9 HC9 HT10 HC10 HBK2 HZX HCX HXI HE1 HE2 HY HZ
      go_wp2
      go_roundw
      case rel => exact ⟨i + 1, by omega, by go_num, HTN⟩
      case measure => simp [intOf]; omega
    · obtain rfl : i = 4 := by omega
      have hi1 : ¬ ((4 : Nat) : Int) < 4 := by omega
      obtain ⟨f, hT⟩ := hh.out
      have HR1 := Lib.hid (hT.resetL HRP.out)
      clear hh hT
      go_wp2_with fail
      refine HR1.out.mono ?_
      rintro e w5 ⟨rfl, hT⟩
      have HR2 := Lib.hid (hT.resetR (by omega) pl)
      clear HR1 hT
      go_wp2_with fail
      refine HR2.out.mono ?_
      rintro e w6 ⟨rfl, hT⟩
      have HT6 := Lib.hid hT
      have hnul : resF pl f pl = ⟨0, 0, 0⟩ := upd_at
      have HNU := Lib.hid hnul
      clear HR2 hT hnul
      go_wp2_with fail
      refine (awake15_any w6).mono ?_
      rintro e w7 ⟨rfl, hb7⟩
      have HT7 := Lib.hid (HT6.out.go hb7)
      have HG := Lib.hid (HT7.out.getL' HRP.out HNU.out)
      have heq := eq_q3 0 0 0 0 0 0
      simp only [and_self, decide_true] at heq
      clear HT6 hb7
      go_wp2_with fail
      refine HG.out.mono ?_
      rintro e w8 ⟨rfl, hT⟩
      obtain ⟨⟨zb, zo, zh⟩, hzz⟩ : ∃ x, resF pl f ql = x := ⟨_, rfl⟩
      have HZ := Lib.hid hzz
      have HG2 := Lib.hid (hT.getL' HRQ.out hzz)
      clear HG HT7 hT hzz
      go_wp2_with fail
      refine HG2.out.mono ?_
      rintro e w9 ⟨rfl, hT⟩
      have HG3 := Lib.hid (hT.getR' HZ.out)
      have heq2 := eq_q3 zb zo zh zb zo zh
      clear HG2 hT
      go_wp2_with fail
      refine HG3.out.mono ?_
      rintro e w10 ⟨rfl, hT⟩
      have HBF := Lib.hid (HB.out.trans ((HBK.out _ _ _ _ hT).mono HB.out.size))
      clear HG3 hT
      go_wp2
      go_ret
      exact ⟨rfl, HBF.out⟩
end Go.Proofs.Ytfhpdjlppblkcaa
