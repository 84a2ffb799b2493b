/-
  The law QuotaExact as a walk: called with any arguments of its types it returns true. No conditions.
-/
import Derived.Test.YtfhpdjlppblkcaaQbaLaw
namespace Go.Proofs.Ytfhpdjlppblkcaa
open Go.ChangeShapes Go.WideShapes Go.RowKit
set_option linter.unusedVariables false
set_option linter.unusedSimpArgs false
set_option maxHeartbeats 8000000
set_option maxRecDepth 100000

theorem fit_two {l x q : Q3} (hb : 0 ≤ q.b) (ho : 0 ≤ q.o) (hh : 0 ≤ q.h) : fitE l x q = if x.b + q.b ≤ l.b ∧ x.o + q.o ≤ l.o ∧ x.h + q.h ≤ l.h then 0 else 16 := by
  unfold fitE
  rw [if_neg (by unfold Q3.neg; omega)]
  by_cases h : x.b + q.b ≤ l.b ∧ x.o + q.o ≤ l.o ∧ x.h + q.h ≤ l.h
  · rw [if_pos h, if_neg (by unfold Q3.over; omega)]
  · rw [if_neg h, if_pos (by unfold Q3.over; omega)]
theorem quotaExact_walk (x0 y0 z0 x1 y1 z1 x2 y2 z2 : Int) (w : World) (w0 : Three x0 y0 z0) (w1 : Three x1 y1 z1) (w2 : Three x2 y2 z2) :
    Calls Try.prog 5 #[.agg #[.int .u8 x0, .int .u8 y0, .int .u8 z0], .agg #[.int .u8 x1, .int .u8 y1, .int .u8 z1], .agg #[.int .u8 x2, .int .u8 y2, .int .u8 z2]] w fun e w' => e = .returned (.bool true) ∧ Below w.heap.size w w' := by
  obtain ⟨hx0, hy0, hz0⟩ := w0
  obtain ⟨hx1, hy1, hz1⟩ := w1
  obtain ⟨hx2, hy2, hz2⟩ := w2
  have HBD : Hid ((0 ≤ x0 ∧ x0 ≤ 255 ∧ 0 ≤ y0 ∧ y0 ≤ 255 ∧ 0 ≤ z0 ∧ z0 ≤ 255) ∧ (0 ≤ x1 ∧ x1 ≤ 255 ∧ 0 ≤ y1 ∧ y1 ≤ 255 ∧ 0 ≤ z1 ∧ z1 ≤ 255) ∧ 0 ≤ x2 ∧ x2 ≤ 255 ∧ 0 ≤ y2 ∧ y2 ≤ 255 ∧ 0 ≤ z2 ∧ z2 ≤ 255) := Lib.hid (by omega)
  have HLI : Hid (Q3.In ⟨x0, y0, z0⟩) := Lib.hid (by unfold Q3.In; simp only; omega)
  have hs0 : (w.alloc (.cells #[.int .u8 x0, .int .u8 y0, .int .u8 z0] 22)).heap.size = w.heap.size + 1 := by simp
  have hs1 : ((w.alloc (.cells #[.int .u8 x0, .int .u8 y0, .int .u8 z0] 22)).alloc (.cells #[.int .u8 x1, .int .u8 y1, .int .u8 z1] 22)).heap.size = w.heap.size + 1 + 1 := by simp
  have hs2 : (((w.alloc (.cells #[.int .u8 x0, .int .u8 y0, .int .u8 z0] 22)).alloc (.cells #[.int .u8 x1, .int .u8 y1, .int .u8 z1] 22)).alloc (.cells #[.int .u8 x2, .int .u8 y2, .int .u8 z2] 22)).heap.size = w.heap.size + 1 + 1 + 1 := by simp
  have hs3 : ((((w.alloc (.cells #[.int .u8 x0, .int .u8 y0, .int .u8 z0] 22)).alloc (.cells #[.int .u8 x1, .int .u8 y1, .int .u8 z1] 22)).alloc (.cells #[.int .u8 x2, .int .u8 y2, .int .u8 z2] 22)).alloc (.cells #[.int .i64 x0, .int .i64 y0, .int .i64 z0] 25)).heap.size = w.heap.size + 4 := by simp
  have b1 : ((((w.alloc (.cells #[.int .u8 x0, .int .u8 y0, .int .u8 z0] 22)).alloc (.cells #[.int .u8 x1, .int .u8 y1, .int .u8 z1] 22)).alloc (.cells #[.int .u8 x2, .int .u8 y2, .int .u8 z2] 22)).alloc (.cells #[.int .i64 x0, .int .i64 y0, .int .i64 z0] 25)).heap[w.heap.size + 1]? = some (.cells #[.int .u8 x1, .int .u8 y1, .int .u8 z1] 22 (0, 0)) := by
    rw [Below.heap_alloc _ _ _ (by omega), Below.heap_alloc _ _ _ (by omega)]
    have := heap_alloc_new (w.alloc (.cells #[.int .u8 x0, .int .u8 y0, .int .u8 z0] 22)) (.cells #[.int .u8 x1, .int .u8 y1, .int .u8 z1] 22)
    rw [hs0] at this
    exact this
  have b2 : ((((w.alloc (.cells #[.int .u8 x0, .int .u8 y0, .int .u8 z0] 22)).alloc (.cells #[.int .u8 x1, .int .u8 y1, .int .u8 z1] 22)).alloc (.cells #[.int .u8 x2, .int .u8 y2, .int .u8 z2] 22)).alloc (.cells #[.int .i64 x0, .int .i64 y0, .int .i64 z0] 25)).heap[w.heap.size + 1 + 1]? = some (.cells #[.int .u8 x2, .int .u8 y2, .int .u8 z2] 22 (0, 0)) := by
    rw [Below.heap_alloc _ _ _ (by omega)]
    have := heap_alloc_new ((w.alloc (.cells #[.int .u8 x0, .int .u8 y0, .int .u8 z0] 22)).alloc (.cells #[.int .u8 x1, .int .u8 y1, .int .u8 z1] 22)) (.cells #[.int .u8 x2, .int .u8 y2, .int .u8 z2] 22)
    rw [hs1] at this
    exact this
  have b3 : ((((w.alloc (.cells #[.int .u8 x0, .int .u8 y0, .int .u8 z0] 22)).alloc (.cells #[.int .u8 x1, .int .u8 y1, .int .u8 z1] 22)).alloc (.cells #[.int .u8 x2, .int .u8 y2, .int .u8 z2] 22)).alloc (.cells #[.int .i64 x0, .int .i64 y0, .int .i64 z0] 25)).heap[w.heap.size + 1 + 1 + 1]? = some (.cells #[.int .i64 x0, .int .i64 y0, .int .i64 z0] 25 (0, 0)) := by
    have := heap_alloc_new (((w.alloc (.cells #[.int .u8 x0, .int .u8 y0, .int .u8 z0] 22)).alloc (.cells #[.int .u8 x1, .int .u8 y1, .int .u8 z1] 22)).alloc (.cells #[.int .u8 x2, .int .u8 y2, .int .u8 z2] 22)) (.cells #[.int .i64 x0, .int .i64 y0, .int .i64 z0] 25)
    rw [hs2] at this
    exact this
  have hb : Below w.heap.size w ((((w.alloc (.cells #[.int .u8 x0, .int .u8 y0, .int .u8 z0] 22)).alloc (.cells #[.int .u8 x1, .int .u8 y1, .int .u8 z1] 22)).alloc (.cells #[.int .u8 x2, .int .u8 y2, .int .u8 z2] 22)).alloc (.cells #[.int .i64 x0, .int .i64 y0, .int .i64 z0] 25)) := ((((Below.refl _ _).alloc (Nat.le_refl _) _).alloc (by omega) _).alloc (by omega) _).alloc (by omega) _
  have HB := Lib.hid hb
  have HBB := Lib.hid (And.intro b1 b2)
  have HBL := Lib.hid b3
  have HSZ := Lib.hid hs3
  have HN := Lib.hid (newQ_any ⟨x0, y0, z0⟩ ((((w.alloc (.cells #[.int .u8 x0, .int .u8 y0, .int .u8 z0] 22)).alloc (.cells #[.int .u8 x1, .int .u8 y1, .int .u8 z1] 22)).alloc (.cells #[.int .u8 x2, .int .u8 y2, .int .u8 z2] 22)).alloc (.cells #[.int .i64 x0, .int .i64 y0, .int .i64 z0] 25)) (fun _ => 0) 1)
  unfold Q3.val at HN
  simp only at HN
  clear hb b1 b2 b3 hs0 hs1 hs2 hs3 hx0 hy0 hz0 hx1 hy1 hz1 hx2 hy2 hz2
  have bd := HBD.out
  have sx : IntKind.i64.wrap (x1 + x2) = x1 + x2 := IntWalk.i64_in _ (by omega)
  have sy : IntKind.i64.wrap (y1 + y2) = y1 + y2 := IntWalk.i64_in _ (by omega)
  have sz : IntKind.i64.wrap (z1 + z2) = z1 + z2 := IntWalk.i64_in _ (by omega)
  obtain ⟨⟨hx0, hx0', hy0, hy0', hz0, hz0'⟩, ⟨hx1, hx1', hy1, hy1', hz1, hz1'⟩, hx2, hx2', hy2, hy2', hz2, hz2'⟩ := bd
  go_enter Try.func5, Try.ntmps5
  go_wp2_with fail
  generalize (((w.alloc (.cells #[.int .u8 x0, .int .u8 y0, .int .u8 z0] 22)).alloc (.cells #[.int .u8 x1, .int .u8 y1, .int .u8 z1] 22)).alloc (.cells #[.int .u8 x2, .int .u8 y2, .int .u8 z2] 22)).alloc (.cells #[.int .i64 x0, .int .i64 y0, .int .i64 z0] 25) = wl at *
  refine HN.out.mono ?_
  rintro e wa ⟨p, rfl, hp, hL, hb⟩
  have ha1 := (hb.block _ (Array.getElem?_eq_some_iff.1 HBB.out.1).1).trans HBB.out.1
  have ha2 := (hb.block _ (Array.getElem?_eq_some_iff.1 HBB.out.2).1).trans HBB.out.2
  have hl1 := (Array.getElem?_eq_some_iff.1 ha1).1
  have hl2 := (Array.getElem?_eq_some_iff.1 ha2).1
  obtain ⟨q0, q1, q2⟩ := cells3 ha1
  obtain ⟨r0, r1, r2⟩ := cells3 ha2
  have HZA := Lib.hid hb.size
  have hbq : Below wa.heap.size wa ((wa.alloc (.cells #[.int .i64 x1, .int .i64 y1, .int .i64 z1] 25)).alloc (.cells #[.int .i64 x2, .int .i64 y2, .int .i64 z2] 25)) := (((Below.refl _ _).alloc (Nat.le_refl _) _).alloc (by simp) _)
  have k0 : ((wa.alloc (.cells #[.int .i64 x1, .int .i64 y1, .int .i64 z1] 25)).alloc (.cells #[.int .i64 x2, .int .i64 y2, .int .i64 z2] 25)).heap[wa.heap.size]? = some (.cells #[.int .i64 x1, .int .i64 y1, .int .i64 z1] 25 (0, 0)) := by
    rw [Below.heap_alloc _ _ _ (by simp)]
    exact heap_alloc_new wa _
  have k1 : ((wa.alloc (.cells #[.int .i64 x1, .int .i64 y1, .int .i64 z1] 25)).alloc (.cells #[.int .i64 x2, .int .i64 y2, .int .i64 z2] 25)).heap[wa.heap.size + 1]? = some (.cells #[.int .i64 x2, .int .i64 y2, .int .i64 z2] 25 (0, 0)) := by
    have := heap_alloc_new (wa.alloc (.cells #[.int .i64 x1, .int .i64 y1, .int .i64 z1] 25)) (.cells #[.int .i64 x2, .int .i64 y2, .int .i64 z2] 25)
    rw [show (wa.alloc (.cells #[.int .i64 x1, .int .i64 y1, .int .i64 z1] 25)).heap.size = wa.heap.size + 1 by simp] at this
    exact this
  obtain ⟨c1, hT, hz, ho, hback⟩ := (Tl.made hL hb).base4 hbq
  have HBK := Lib.hid (fun (M : Nat) (f' : Int → Q3) (w5 : World) (h : Tl _ c1 M p ⟨x0, y0, z0⟩ f' w5) => (hback h).below)
  have HZ : Hid (c1 wa.heap.size = 0 ∧ c1 (wa.heap.size + 1) = 0) := Lib.hid ⟨hz _ (Nat.le_refl _), hz _ (by omega)⟩
  have HO := Lib.hid ho
  have HC := Lib.hid (And.intro k0 k1)
  have HTQ := Lib.hid hT
  have HQZ := Lib.hid hbq.size
  obtain ⟨E, hE⟩ : ∃ E, fitE ⟨x0, y0, z0⟩ Q3.nul ⟨x1, y1, z1⟩ = E := ⟨_, rfl⟩
  have HE2 := Lib.hid (fit_two (l := ⟨x0, y0, z0⟩) (x := Q3.nul) (q := ⟨x1, y1, z1⟩) hx1 hy1 hz1)
  rw [hE] at HE2
  simp only [Q3.nul, Int.zero_add] at HE2
  have HE := Lib.hid hE
  have HA1 := Lib.hid (hT.addL' HLI.out ri1 (by omega) hE)
  clear HN hL hb hp hT hz ho hback k0 k1 hbq ha1 ha2 HBB hE
  go_wp2_with fail
  generalize (wa.alloc (.cells #[.int .i64 x1, .int .i64 y1, .int .i64 z1] 25)).alloc (.cells #[.int .i64 x2, .int .i64 y2, .int .i64 z2] 25) = wq at *
  generalize hba : wa.heap.size = ba at *
  clear hba
  refine HA1.out.mono ?_
  rintro e v1 ⟨rfl, hT1⟩
  have ha := hT1.kz.heap HZ.out.1 HC.out.1
  have hbx := hT1.kz.heap HZ.out.2 HC.out.2
  have hlx := ((HBK.out _ _ _ hT1).block _ (Array.getElem?_eq_some_iff.1 HBL.out).1).trans HBL.out
  obtain ⟨g0, g1, g2⟩ := cells3 ha
  obtain ⟨h0, h1, h2⟩ := cells3 hbx
  obtain ⟨l0, l1, l2⟩ := cells3 hlx
  have HT1 := Lib.hid hT1
  have HAX := Lib.hid ha
  have HBX := Lib.hid hbx
  have HLX := Lib.hid hlx
  clear HA1 hT1 q0 q1 q2 r0 r1 r2 hl1 hl2 ha hbx hlx
  by_cases u0 : x1 ≤ x0
  case neg =>
    have d0 : decide (x1 ≤ x0) = false := decide_eq_false u0
    obtain rfl : E = 16 := by rw [HE2.out, if_neg (by omega)]
    have hf := add_no (f := fun _ => Q3.nul) (z := 1) rfl (show fitE ⟨x0, y0, z0⟩ Q3.nul ⟨x1, y1, z1⟩ ≠ 0 by rw [HE.out]; omega)
    rw [hf] at HT1
    clear hf HE HE2 HLX HAX HBX
    go_wp2_with fail
    refine (awake15_any v1).mono ?_
    rintro e v2 ⟨rfl, hb2⟩
    have HT2 := Lib.hid (HT1.out.go hb2)
    have HG := Lib.hid (HT2.out.getL' ri1 (show (fun _ => Q3.nul : Int → Q3) 1 = ⟨0, 0, 0⟩ from rfl))
    have heq := eq_q3 0 0 0 0 0 0
    simp only [and_self, decide_true] at heq
    clear hb2 g0 g1 g2 h0 h1 h2 l0 l1 l2
    go_wp2_with fail
    refine HG.out.mono ?_
    rintro e v3 ⟨rfl, hT3⟩
    have HB3 := Lib.hid (HB.out.trans ((HBK.out _ _ _ hT3).mono HB.out.size))
    clear HG hT3
    go_wp2
    go_ret
    exact ⟨rfl, HB3.out⟩
  have d0 : decide (x1 ≤ x0) = true := decide_eq_true u0
  by_cases u1 : y1 ≤ y0
  case neg =>
    have d1 : decide (y1 ≤ y0) = false := decide_eq_false u1
    obtain rfl : E = 16 := by rw [HE2.out, if_neg (by omega)]
    have hf := add_no (f := fun _ => Q3.nul) (z := 1) rfl (show fitE ⟨x0, y0, z0⟩ Q3.nul ⟨x1, y1, z1⟩ ≠ 0 by rw [HE.out]; omega)
    rw [hf] at HT1
    clear hf HE HE2 HLX HAX HBX
    go_wp2_with fail
    refine (awake15_any v1).mono ?_
    rintro e v2 ⟨rfl, hb2⟩
    have HT2 := Lib.hid (HT1.out.go hb2)
    have HG := Lib.hid (HT2.out.getL' ri1 (show (fun _ => Q3.nul : Int → Q3) 1 = ⟨0, 0, 0⟩ from rfl))
    have heq := eq_q3 0 0 0 0 0 0
    simp only [and_self, decide_true] at heq
    clear hb2 g0 g1 g2 h0 h1 h2 l0 l1 l2
    go_wp2_with fail
    refine HG.out.mono ?_
    rintro e v3 ⟨rfl, hT3⟩
    have HB3 := Lib.hid (HB.out.trans ((HBK.out _ _ _ hT3).mono HB.out.size))
    clear HG hT3
    go_wp2
    go_ret
    exact ⟨rfl, HB3.out⟩
  have d1 : decide (y1 ≤ y0) = true := decide_eq_true u1
  by_cases u2 : z1 ≤ z0
  case neg =>
    have d2 : decide (z1 ≤ z0) = false := decide_eq_false u2
    obtain rfl : E = 16 := by rw [HE2.out, if_neg (by omega)]
    have hf := add_no (f := fun _ => Q3.nul) (z := 1) rfl (show fitE ⟨x0, y0, z0⟩ Q3.nul ⟨x1, y1, z1⟩ ≠ 0 by rw [HE.out]; omega)
    rw [hf] at HT1
    clear hf HE HE2 HLX HAX HBX
    go_wp2_with fail
    refine (awake15_any v1).mono ?_
    rintro e v2 ⟨rfl, hb2⟩
    have HT2 := Lib.hid (HT1.out.go hb2)
    have HG := Lib.hid (HT2.out.getL' ri1 (show (fun _ => Q3.nul : Int → Q3) 1 = ⟨0, 0, 0⟩ from rfl))
    have heq := eq_q3 0 0 0 0 0 0
    simp only [and_self, decide_true] at heq
    clear hb2 g0 g1 g2 h0 h1 h2 l0 l1 l2
    go_wp2_with fail
    refine HG.out.mono ?_
    rintro e v3 ⟨rfl, hT3⟩
    have HB3 := Lib.hid (HB.out.trans ((HBK.out _ _ _ hT3).mono HB.out.size))
    clear HG hT3
    go_wp2
    go_ret
    exact ⟨rfl, HB3.out⟩
  have d2 : decide (z1 ≤ z0) = true := decide_eq_true u2
  obtain rfl : E = 0 := by rw [HE2.out, if_pos (by omega)]
  have hf1 : addF ⟨x0, y0, z0⟩ 1 ⟨x1, y1, z1⟩ (fun _ => Q3.nul) 1 = ⟨x1, y1, z1⟩ := by rw [add_at (f := fun _ => Q3.nul) (z := 1) (x := Q3.nul) rfl HE.out]; simp [Q3.add, Q3.nul]
  obtain ⟨c2, hT2, hzz2, ho2, hback2⟩ := HT1.out.base4 (below3 v1 (.int .i64 (x1 + x2)) (.int .i64 (y1 + y2)) (.int .i64 (z1 + z2)) 25)
  have HBK2 := Lib.hid (fun (M : Nat) (f' : Int → Q3) (w5 : World) (h : Tl _ c2 M p ⟨x0, y0, z0⟩ f' w5) => hback2 h)
  have HZ2 : Hid (c2 v1.heap.size = 0) := Lib.hid (hzz2 _ (Nat.le_refl _))
  have hsx : (v1.alloc (.cells #[.int .i64 (x1 + x2), .int .i64 (y1 + y2), .int .i64 (z1 + z2)] 25)).heap[v1.heap.size]? = some (.cells #[.int .i64 (x1 + x2), .int .i64 (y1 + y2), .int .i64 (z1 + z2)] 25 (0, 0)) := heap_alloc_new v1 _
  have HSX := Lib.hid hsx
  obtain ⟨E', hE'⟩ : ∃ E, fitE ⟨x0, y0, z0⟩ (addF ⟨x0, y0, z0⟩ 1 ⟨x1, y1, z1⟩ (fun _ => Q3.nul) 1) ⟨x2, y2, z2⟩ = E := ⟨_, rfl⟩
  have HA2 := Lib.hid (hT2.addL' HLI.out ri1 (by omega) hE')
  rw [hf1] at hE'
  have HE4 := Lib.hid (fit_two (l := ⟨x0, y0, z0⟩) (x := ⟨x1, y1, z1⟩) (q := ⟨x2, y2, z2⟩) hx2 hy2 hz2)
  rw [hE'] at HE4
  simp only at HE4
  have HF1 := Lib.hid hf1
  have HE' := Lib.hid hE'
  have HO2 := Lib.hid ho2
  have HSV := Lib.hid (HBK.out _ _ _ HT1.out).size
  have HQV := Lib.hid HT1.out.kz.size
  have e0 := cell_under h0 (.cells #[.int .i64 (x1 + x2), .int .i64 (y1 + y2), .int .i64 (z1 + z2)] 25)
  have e1 := cell_under h1 (.cells #[.int .i64 (x1 + x2), .int .i64 (y1 + y2), .int .i64 (z1 + z2)] 25)
  have e2 := cell_under h2 (.cells #[.int .i64 (x1 + x2), .int .i64 (y1 + y2), .int .i64 (z1 + z2)] 25)
  clear hf1 hT2 hzz2 ho2 hback2 hsx hE' HE HE2
  go_wp2_with fail
  clear d0 d1 d2 u0 u1 u2
  generalize v1.alloc (.cells #[.int .i64 (x1 + x2), .int .i64 (y1 + y2), .int .i64 (z1 + z2)] 25) = ws at *
  generalize hsb : v1.heap.size = sb at *
  clear hsb
  refine HA2.out.mono ?_
  rintro e v2 ⟨rfl, hT2⟩
  have hsx := hT2.kz.heap HZ2.out HSX.out
  have hT2' := HBK2.out _ _ _ hT2
  have ha := hT2'.kz.heap HZ.out.1 HC.out.1
  have hlx := ((HBK.out _ _ _ hT2').block _ (Array.getElem?_eq_some_iff.1 HBL.out).1).trans HBL.out
  have f0 := frozen_of_row v2 sb 0 _ _ hsx
  have f1 := frozen_of_row v2 sb 1 _ _ hsx
  have f2 := frozen_of_row v2 sb 2 _ _ hsx
  have HSX2 := Lib.hid hsx
  have HT2 := Lib.hid hT2
  have HBV : Hid (Below w.heap.size w v2) := Lib.hid (HB.out.trans ((HBK.out _ _ _ hT2').mono HB.out.size))
  obtain ⟨s0, s1, s2⟩ := cells3 hsx
  obtain ⟨i0, i1, i2⟩ := cells3 ha
  obtain ⟨j0, j1, j2⟩ := cells3 hlx
  clear hsx hT2 hT2' ha hlx HA2 g0 g1 g2 h0 h1 h2 l0 l1 l2 e0 e1 e2
  by_cases u0 : x1 + x2 ≤ x0
  case neg =>
    have d0 : decide (x1 + x2 ≤ x0) = false := decide_eq_false u0
    obtain rfl : E' = 16 := by rw [HE4.out, if_neg (by omega)]
    have hf2 := add_no (f := addF ⟨x0, y0, z0⟩ 1 ⟨x1, y1, z1⟩ (fun _ => Q3.nul)) (z := 1) HF1.out (show fitE ⟨x0, y0, z0⟩ ⟨x1, y1, z1⟩ ⟨x2, y2, z2⟩ ≠ 0 by rw [HE'.out]; omega)
    rw [hf2] at HT2
    have HXF := HF1
    have hsl := (Array.getElem?_eq_some_iff.1 HSX.out).1
    obtain ⟨c3, hc3, hT4⟩ := HT2.out.put HZ2.out hsl (.int .i64 x1) (.int .i64 y1) (.int .i64 z1)
    have HT4 := Lib.hid hT4
    have HC4 := Lib.hid (set3 HSX2.out (.int .i64 x1) (.int .i64 y1) (.int .i64 z1))
    have HZ5 : Hid (c3 sb = 0) := Lib.hid ((hc3 _ hsl).trans HZ2.out)
    have hsw : w.heap.size ≤ sb := by have := HB.out.size; have := HZA.out; have := HQZ.out; have := HQV.out; omega
    have HB4 := Lib.hid (below_set3 HBV.out hsw (.int .i64 x1) (.int .i64 y1) (.int .i64 z1))
    have HLO : Hid (∀ g, g < w.heap.size → c3 g = 0) := Lib.hid fun g hg => by
      have hb1 := HB.out.size
      have hb2 := HZA.out
      have hb3 := HQZ.out
      have hb4 := HQV.out
      rw [hc3 g (by omega), HO2.out g (by omega), HO.out g (by omega)]
    clear hf2 hT4 hc3 HE4 HE' hsw hsl
    go_wp2_with fail
    clear s0 s1 s2 i0 i1 i2 j0 j1 j2 f0 f1 f2
    generalize ((v2.setCell ⟨sb, 0, none⟩ (.int .i64 x1)).setCell ⟨sb, 1, none⟩ (.int .i64 y1)).setCell ⟨sb, 2, none⟩ (.int .i64 z1) = v4 at *
    have HT0 := Lib.hid (HT4.out.go (below_drewN (Below.refl v4.heap.size v4) 1))
    have HC5 : Hid (v4.drew.heap[sb]? = some (.cells #[.int .i64 x1, .int .i64 y1, .int .i64 z1] 25 (0, 0))) := HC4
    refine wp_region_hand 21 (fun W => W.heap[sb]? = some (.cells #[.int .i64 x1, .int .i64 y1, .int .i64 z1] 25 (0, 0))) (by kernel_rfl) (by kernel_rfl) ?_
    rw [show Array.replicate 21 false = #[false, false, false, false, false, false, false, false, false, false, false, false, false, false, false, false, false, false, false, false, false] from rfl]
    have hHeld := HC5.out
    have HCL := Lib.hid (awake15_any v4.drew)
    refine held_one (i := 0) (by kernel_rfl) ?_
    refine held_callX (d := 126) rfl rfl (by rfl) rfl (by kernel_rfl) Try.func12 (by kernel_rfl) HCL.out ?_
    rintro e v6 ⟨rfl, hb6⟩
    have HT6 := Lib.hid (HT0.out.go hb6)
    have HC6 : Hid (v6.heap[sb]? = some (.cells #[.int .i64 x1, .int .i64 y1, .int .i64 z1] 25 (0, 0))) := Lib.hid (HT6.out.kz.heap HZ5.out HC5.out)
    clear hb6
    refine ⟨_, rfl, ?_⟩
    clear HCL hHeld
    have hHeld := HC6.out
    refine ⟨hHeld, ?_⟩
    simp only [Act.put, List.setIfInBounds_toArray, List.set_cons_zero, List.set_cons_succ]
    refine held_take (i := 1) (d := 127) (v := .bool true) rfl rfl (by kernel_rfl) (by kernel_rfl) (by kernel_rfl) (fun _ _ _ h => h) (by rfl) (fun W _ => run_move_is (.tmp 126) rfl rfl W) hHeld ?_
    simp only [Act.put, List.setIfInBounds_toArray, List.set_cons_zero, List.set_cons_succ]
    refine held_take (i := 2) (d := 128) (v := .int .i64 16) rfl rfl (by kernel_rfl) (by kernel_rfl) (by kernel_rfl) (fun _ _ _ h => h) (by rfl) (fun W _ => run_move_is (.tmp 13) rfl rfl W) hHeld ?_
    simp only [Act.put, List.setIfInBounds_toArray, List.set_cons_zero, List.set_cons_succ]
    refine held_take (i := 3) (d := 129) (v := .bool false) rfl rfl (by kernel_rfl) (by kernel_rfl) (by kernel_rfl) (fun _ _ _ h => h) (by rfl) (fun W _ => by go_simp) hHeld ?_
    simp only [Act.put, List.setIfInBounds_toArray, List.set_cons_zero, List.set_cons_succ]
    refine held_take (i := 4) (d := 130) (v := .bool false) rfl rfl (by kernel_rfl) (by kernel_rfl) (by kernel_rfl) (fun _ _ _ h => h) (by rfl) (fun W _ => run_move_is (.tmp 14) rfl rfl W) hHeld ?_
    simp only [Act.put, List.setIfInBounds_toArray, List.set_cons_zero, List.set_cons_succ]
    refine held_take (i := 5) (d := 131) (v := .bool true) rfl rfl (by kernel_rfl) (by kernel_rfl) (by kernel_rfl) (fun _ _ _ h => h) (by rfl) (fun W _ => by go_simp) hHeld ?_
    simp only [Act.put, List.setIfInBounds_toArray, List.set_cons_zero, List.set_cons_succ]
    refine held_take (i := 6) (d := 132) (v := .bool true) rfl rfl (by kernel_rfl) (by kernel_rfl) (by kernel_rfl) (fun _ _ _ h => h) (by rfl) (fun W _ => by go_simp) hHeld ?_
    simp only [Act.put, List.setIfInBounds_toArray, List.set_cons_zero, List.set_cons_succ]
    refine held_take (i := 7) (d := 133) (v := .bool true) rfl rfl (by kernel_rfl) (by kernel_rfl) (by kernel_rfl) (fun _ _ _ h => h) (by rfl) (fun W _ => run_move_is (.tmp 132) rfl rfl W) hHeld ?_
    simp only [Act.put, List.setIfInBounds_toArray, List.set_cons_zero, List.set_cons_succ]
    refine held_take (i := 8) (d := 134) (v := .bool false) rfl rfl (by kernel_rfl) (by kernel_rfl) (by kernel_rfl) (fun _ _ _ h => h) (by rfl) (fun W _ => run_move_is (.tmp 14) rfl rfl W) hHeld ?_
    simp only [Act.put, List.setIfInBounds_toArray, List.set_cons_zero, List.set_cons_succ]
    refine held_take (i := 9) (d := 135) (v := .bool false) rfl rfl (by kernel_rfl) (by kernel_rfl) (by kernel_rfl) (fun _ _ _ h => h) (by rfl) (fun W _ => run_move_is (.tmp 134) rfl rfl W) hHeld ?_
    simp only [Act.put, List.setIfInBounds_toArray, List.set_cons_zero, List.set_cons_succ]
    refine held_take (i := 10) (d := 136) (v := .int .i64 16) rfl rfl (by kernel_rfl) (by kernel_rfl) (by kernel_rfl) (fun _ _ _ h => h) (by rfl) (fun W _ => run_move_is (.tmp 13) rfl rfl W) hHeld ?_
    simp only [Act.put, List.setIfInBounds_toArray, List.set_cons_zero, List.set_cons_succ]
    refine held_take (i := 11) (d := 137) (v := .bool true) rfl rfl (by kernel_rfl) (by kernel_rfl) (by kernel_rfl) (fun _ _ _ h => h) (by rfl) (fun W _ => by go_simp) hHeld ?_
    simp only [Act.put, List.setIfInBounds_toArray, List.set_cons_zero, List.set_cons_succ]
    refine held_take (i := 12) (d := 138) (v := .bool true) rfl rfl (by kernel_rfl) (by kernel_rfl) (by kernel_rfl) (fun _ _ _ h => h) (by rfl) (fun W _ => by go_simp) hHeld ?_
    simp only [Act.put, List.setIfInBounds_toArray, List.set_cons_zero, List.set_cons_succ]
    refine held_take (i := 13) (d := 139) (v := .bool true) rfl rfl (by kernel_rfl) (by kernel_rfl) (by kernel_rfl) (fun _ _ _ h => h) (by rfl) (fun W _ => by go_simp) hHeld ?_
    simp only [Act.put, List.setIfInBounds_toArray, List.set_cons_zero, List.set_cons_succ]
    refine held_take (i := 14) (d := 140) (v := .bool true) rfl rfl (by kernel_rfl) (by kernel_rfl) (by kernel_rfl) (fun _ _ _ h => h) (by rfl) (fun W _ => run_move_is (.tmp 139) rfl rfl W) hHeld ?_
    simp only [Act.put, List.setIfInBounds_toArray, List.set_cons_zero, List.set_cons_succ]
    refine held_take (i := 15) (d := 141) (v := .pointer (some ⟨p, 0, none⟩)) rfl rfl (by kernel_rfl) (by kernel_rfl) (by kernel_rfl) (fun _ _ _ h => h) (by rfl) (fun W _ => run_move_is (.tmp 8) rfl rfl W) hHeld ?_
    simp only [Act.put, List.setIfInBounds_toArray, List.set_cons_zero, List.set_cons_succ]
    refine held_take (i := 17) (d := 143) (v := .agg #[.int .i64 x1, .int .i64 y1, .int .i64 z1]) rfl rfl (by kernel_rfl) (by kernel_rfl) (by kernel_rfl) (fun _ _ _ h => h) (by rfl) (fun W hS => by obtain ⟨g0, g1, g2⟩ := cells3 hS; go_simp) hHeld ?_
    simp only [Act.put, List.setIfInBounds_toArray, List.set_cons_zero, List.set_cons_succ]
    have HCL := Lib.hid (HT6.out.getL' ri1 HXF.out)
    refine held_one (i := 16) (by kernel_rfl) ?_
    refine held_callX (d := 142) rfl rfl (by rfl) rfl (by kernel_rfl) Try.func10 (by kernel_rfl) HCL.out ?_
    rintro e v7 ⟨rfl, hT7⟩
    have HT7 := Lib.hid hT7
    have HC7 : Hid (v7.heap[sb]? = some (.cells #[.int .i64 x1, .int .i64 y1, .int .i64 z1] 25 (0, 0))) := Lib.hid (hT7.kz.heap HZ5.out HC5.out)
    clear hT7
    refine ⟨_, rfl, ?_⟩
    clear HCL hHeld
    have hHeld := HC7.out
    refine ⟨hHeld, ?_⟩
    simp only [Act.put, List.setIfInBounds_toArray, List.set_cons_zero, List.set_cons_succ]
    refine held_take (i := 18) (d := 144) (v := .bool true) rfl rfl (by kernel_rfl) (by kernel_rfl) (by kernel_rfl) (fun _ _ _ h => h) (by rfl) (fun W _ => by have heq := eq_q3 x1 y1 z1 x1 y1 z1; go_simp) hHeld ?_
    simp only [Act.put, List.setIfInBounds_toArray, List.set_cons_zero, List.set_cons_succ]
    refine held_take (i := 19) (d := 145) (v := .bool true) rfl rfl (by kernel_rfl) (by kernel_rfl) (by kernel_rfl) (fun _ _ _ h => h) (by rfl) (fun W _ => by go_simp) hHeld ?_
    simp only [Act.put, List.setIfInBounds_toArray, List.set_cons_zero, List.set_cons_succ]
    refine held_take (i := 20) (d := 6) (v := .bool true) rfl rfl (by kernel_rfl) (by kernel_rfl) (by kernel_rfl) (fun _ _ _ h => h) (by rfl) (fun W _ => by go_simp) hHeld ?_
    simp only [Act.put, List.setIfInBounds_toArray, List.set_cons_zero, List.set_cons_succ]
    refine wpAnyH_done (by kernel_rfl) ?_ _
    clear hHeld
    have HB7 := Lib.hid (HB4.out.trans (HT7.out.kz.below HLO.out HB4.out.size))
    clear HT0 HT6 HT7 HC5 HC6 HC7
    go_wp2
    go_ret
    exact ⟨rfl, HB7.out⟩
  have d0 : decide (x1 + x2 ≤ x0) = true := decide_eq_true u0
  by_cases u1 : y1 + y2 ≤ y0
  case neg =>
    have d1 : decide (y1 + y2 ≤ y0) = false := decide_eq_false u1
    obtain rfl : E' = 16 := by rw [HE4.out, if_neg (by omega)]
    have hf2 := add_no (f := addF ⟨x0, y0, z0⟩ 1 ⟨x1, y1, z1⟩ (fun _ => Q3.nul)) (z := 1) HF1.out (show fitE ⟨x0, y0, z0⟩ ⟨x1, y1, z1⟩ ⟨x2, y2, z2⟩ ≠ 0 by rw [HE'.out]; omega)
    rw [hf2] at HT2
    have HXF := HF1
    have hsl := (Array.getElem?_eq_some_iff.1 HSX.out).1
    obtain ⟨c3, hc3, hT4⟩ := HT2.out.put HZ2.out hsl (.int .i64 x1) (.int .i64 y1) (.int .i64 z1)
    have HT4 := Lib.hid hT4
    have HC4 := Lib.hid (set3 HSX2.out (.int .i64 x1) (.int .i64 y1) (.int .i64 z1))
    have HZ5 : Hid (c3 sb = 0) := Lib.hid ((hc3 _ hsl).trans HZ2.out)
    have hsw : w.heap.size ≤ sb := by have := HB.out.size; have := HZA.out; have := HQZ.out; have := HQV.out; omega
    have HB4 := Lib.hid (below_set3 HBV.out hsw (.int .i64 x1) (.int .i64 y1) (.int .i64 z1))
    have HLO : Hid (∀ g, g < w.heap.size → c3 g = 0) := Lib.hid fun g hg => by
      have hb1 := HB.out.size
      have hb2 := HZA.out
      have hb3 := HQZ.out
      have hb4 := HQV.out
      rw [hc3 g (by omega), HO2.out g (by omega), HO.out g (by omega)]
    clear hf2 hT4 hc3 HE4 HE' hsw hsl
    go_wp2_with fail
    clear s0 s1 s2 i0 i1 i2 j0 j1 j2 f0 f1 f2
    generalize ((v2.setCell ⟨sb, 0, none⟩ (.int .i64 x1)).setCell ⟨sb, 1, none⟩ (.int .i64 y1)).setCell ⟨sb, 2, none⟩ (.int .i64 z1) = v4 at *
    have HT0 := Lib.hid (HT4.out.go (below_drewN (Below.refl v4.heap.size v4) 1))
    have HC5 : Hid (v4.drew.heap[sb]? = some (.cells #[.int .i64 x1, .int .i64 y1, .int .i64 z1] 25 (0, 0))) := HC4
    refine wp_region_hand 21 (fun W => W.heap[sb]? = some (.cells #[.int .i64 x1, .int .i64 y1, .int .i64 z1] 25 (0, 0))) (by kernel_rfl) (by kernel_rfl) ?_
    rw [show Array.replicate 21 false = #[false, false, false, false, false, false, false, false, false, false, false, false, false, false, false, false, false, false, false, false, false] from rfl]
    have hHeld := HC5.out
    have HCL := Lib.hid (awake15_any v4.drew)
    refine held_one (i := 0) (by kernel_rfl) ?_
    refine held_callX (d := 126) rfl rfl (by rfl) rfl (by kernel_rfl) Try.func12 (by kernel_rfl) HCL.out ?_
    rintro e v6 ⟨rfl, hb6⟩
    have HT6 := Lib.hid (HT0.out.go hb6)
    have HC6 : Hid (v6.heap[sb]? = some (.cells #[.int .i64 x1, .int .i64 y1, .int .i64 z1] 25 (0, 0))) := Lib.hid (HT6.out.kz.heap HZ5.out HC5.out)
    clear hb6
    refine ⟨_, rfl, ?_⟩
    clear HCL hHeld
    have hHeld := HC6.out
    refine ⟨hHeld, ?_⟩
    simp only [Act.put, List.setIfInBounds_toArray, List.set_cons_zero, List.set_cons_succ]
    refine held_take (i := 1) (d := 127) (v := .bool true) rfl rfl (by kernel_rfl) (by kernel_rfl) (by kernel_rfl) (fun _ _ _ h => h) (by rfl) (fun W _ => run_move_is (.tmp 126) rfl rfl W) hHeld ?_
    simp only [Act.put, List.setIfInBounds_toArray, List.set_cons_zero, List.set_cons_succ]
    refine held_take (i := 2) (d := 128) (v := .int .i64 16) rfl rfl (by kernel_rfl) (by kernel_rfl) (by kernel_rfl) (fun _ _ _ h => h) (by rfl) (fun W _ => run_move_is (.tmp 13) rfl rfl W) hHeld ?_
    simp only [Act.put, List.setIfInBounds_toArray, List.set_cons_zero, List.set_cons_succ]
    refine held_take (i := 3) (d := 129) (v := .bool false) rfl rfl (by kernel_rfl) (by kernel_rfl) (by kernel_rfl) (fun _ _ _ h => h) (by rfl) (fun W _ => by go_simp) hHeld ?_
    simp only [Act.put, List.setIfInBounds_toArray, List.set_cons_zero, List.set_cons_succ]
    refine held_take (i := 4) (d := 130) (v := .bool false) rfl rfl (by kernel_rfl) (by kernel_rfl) (by kernel_rfl) (fun _ _ _ h => h) (by rfl) (fun W _ => run_move_is (.tmp 14) rfl rfl W) hHeld ?_
    simp only [Act.put, List.setIfInBounds_toArray, List.set_cons_zero, List.set_cons_succ]
    refine held_take (i := 5) (d := 131) (v := .bool true) rfl rfl (by kernel_rfl) (by kernel_rfl) (by kernel_rfl) (fun _ _ _ h => h) (by rfl) (fun W _ => by go_simp) hHeld ?_
    simp only [Act.put, List.setIfInBounds_toArray, List.set_cons_zero, List.set_cons_succ]
    refine held_take (i := 6) (d := 132) (v := .bool true) rfl rfl (by kernel_rfl) (by kernel_rfl) (by kernel_rfl) (fun _ _ _ h => h) (by rfl) (fun W _ => by go_simp) hHeld ?_
    simp only [Act.put, List.setIfInBounds_toArray, List.set_cons_zero, List.set_cons_succ]
    refine held_take (i := 7) (d := 133) (v := .bool true) rfl rfl (by kernel_rfl) (by kernel_rfl) (by kernel_rfl) (fun _ _ _ h => h) (by rfl) (fun W _ => run_move_is (.tmp 132) rfl rfl W) hHeld ?_
    simp only [Act.put, List.setIfInBounds_toArray, List.set_cons_zero, List.set_cons_succ]
    refine held_take (i := 8) (d := 134) (v := .bool false) rfl rfl (by kernel_rfl) (by kernel_rfl) (by kernel_rfl) (fun _ _ _ h => h) (by rfl) (fun W _ => run_move_is (.tmp 14) rfl rfl W) hHeld ?_
    simp only [Act.put, List.setIfInBounds_toArray, List.set_cons_zero, List.set_cons_succ]
    refine held_take (i := 9) (d := 135) (v := .bool false) rfl rfl (by kernel_rfl) (by kernel_rfl) (by kernel_rfl) (fun _ _ _ h => h) (by rfl) (fun W _ => run_move_is (.tmp 134) rfl rfl W) hHeld ?_
    simp only [Act.put, List.setIfInBounds_toArray, List.set_cons_zero, List.set_cons_succ]
    refine held_take (i := 10) (d := 136) (v := .int .i64 16) rfl rfl (by kernel_rfl) (by kernel_rfl) (by kernel_rfl) (fun _ _ _ h => h) (by rfl) (fun W _ => run_move_is (.tmp 13) rfl rfl W) hHeld ?_
    simp only [Act.put, List.setIfInBounds_toArray, List.set_cons_zero, List.set_cons_succ]
    refine held_take (i := 11) (d := 137) (v := .bool true) rfl rfl (by kernel_rfl) (by kernel_rfl) (by kernel_rfl) (fun _ _ _ h => h) (by rfl) (fun W _ => by go_simp) hHeld ?_
    simp only [Act.put, List.setIfInBounds_toArray, List.set_cons_zero, List.set_cons_succ]
    refine held_take (i := 12) (d := 138) (v := .bool true) rfl rfl (by kernel_rfl) (by kernel_rfl) (by kernel_rfl) (fun _ _ _ h => h) (by rfl) (fun W _ => by go_simp) hHeld ?_
    simp only [Act.put, List.setIfInBounds_toArray, List.set_cons_zero, List.set_cons_succ]
    refine held_take (i := 13) (d := 139) (v := .bool true) rfl rfl (by kernel_rfl) (by kernel_rfl) (by kernel_rfl) (fun _ _ _ h => h) (by rfl) (fun W _ => by go_simp) hHeld ?_
    simp only [Act.put, List.setIfInBounds_toArray, List.set_cons_zero, List.set_cons_succ]
    refine held_take (i := 14) (d := 140) (v := .bool true) rfl rfl (by kernel_rfl) (by kernel_rfl) (by kernel_rfl) (fun _ _ _ h => h) (by rfl) (fun W _ => run_move_is (.tmp 139) rfl rfl W) hHeld ?_
    simp only [Act.put, List.setIfInBounds_toArray, List.set_cons_zero, List.set_cons_succ]
    refine held_take (i := 15) (d := 141) (v := .pointer (some ⟨p, 0, none⟩)) rfl rfl (by kernel_rfl) (by kernel_rfl) (by kernel_rfl) (fun _ _ _ h => h) (by rfl) (fun W _ => run_move_is (.tmp 8) rfl rfl W) hHeld ?_
    simp only [Act.put, List.setIfInBounds_toArray, List.set_cons_zero, List.set_cons_succ]
    refine held_take (i := 17) (d := 143) (v := .agg #[.int .i64 x1, .int .i64 y1, .int .i64 z1]) rfl rfl (by kernel_rfl) (by kernel_rfl) (by kernel_rfl) (fun _ _ _ h => h) (by rfl) (fun W hS => by obtain ⟨g0, g1, g2⟩ := cells3 hS; go_simp) hHeld ?_
    simp only [Act.put, List.setIfInBounds_toArray, List.set_cons_zero, List.set_cons_succ]
    have HCL := Lib.hid (HT6.out.getL' ri1 HXF.out)
    refine held_one (i := 16) (by kernel_rfl) ?_
    refine held_callX (d := 142) rfl rfl (by rfl) rfl (by kernel_rfl) Try.func10 (by kernel_rfl) HCL.out ?_
    rintro e v7 ⟨rfl, hT7⟩
    have HT7 := Lib.hid hT7
    have HC7 : Hid (v7.heap[sb]? = some (.cells #[.int .i64 x1, .int .i64 y1, .int .i64 z1] 25 (0, 0))) := Lib.hid (hT7.kz.heap HZ5.out HC5.out)
    clear hT7
    refine ⟨_, rfl, ?_⟩
    clear HCL hHeld
    have hHeld := HC7.out
    refine ⟨hHeld, ?_⟩
    simp only [Act.put, List.setIfInBounds_toArray, List.set_cons_zero, List.set_cons_succ]
    refine held_take (i := 18) (d := 144) (v := .bool true) rfl rfl (by kernel_rfl) (by kernel_rfl) (by kernel_rfl) (fun _ _ _ h => h) (by rfl) (fun W _ => by have heq := eq_q3 x1 y1 z1 x1 y1 z1; go_simp) hHeld ?_
    simp only [Act.put, List.setIfInBounds_toArray, List.set_cons_zero, List.set_cons_succ]
    refine held_take (i := 19) (d := 145) (v := .bool true) rfl rfl (by kernel_rfl) (by kernel_rfl) (by kernel_rfl) (fun _ _ _ h => h) (by rfl) (fun W _ => by go_simp) hHeld ?_
    simp only [Act.put, List.setIfInBounds_toArray, List.set_cons_zero, List.set_cons_succ]
    refine held_take (i := 20) (d := 6) (v := .bool true) rfl rfl (by kernel_rfl) (by kernel_rfl) (by kernel_rfl) (fun _ _ _ h => h) (by rfl) (fun W _ => by go_simp) hHeld ?_
    simp only [Act.put, List.setIfInBounds_toArray, List.set_cons_zero, List.set_cons_succ]
    refine wpAnyH_done (by kernel_rfl) ?_ _
    clear hHeld
    have HB7 := Lib.hid (HB4.out.trans (HT7.out.kz.below HLO.out HB4.out.size))
    clear HT0 HT6 HT7 HC5 HC6 HC7
    go_wp2
    go_ret
    exact ⟨rfl, HB7.out⟩
  have d1 : decide (y1 + y2 ≤ y0) = true := decide_eq_true u1
  by_cases u2 : z1 + z2 ≤ z0
  case neg =>
    have d2 : decide (z1 + z2 ≤ z0) = false := decide_eq_false u2
    obtain rfl : E' = 16 := by rw [HE4.out, if_neg (by omega)]
    have hf2 := add_no (f := addF ⟨x0, y0, z0⟩ 1 ⟨x1, y1, z1⟩ (fun _ => Q3.nul)) (z := 1) HF1.out (show fitE ⟨x0, y0, z0⟩ ⟨x1, y1, z1⟩ ⟨x2, y2, z2⟩ ≠ 0 by rw [HE'.out]; omega)
    rw [hf2] at HT2
    have HXF := HF1
    have hsl := (Array.getElem?_eq_some_iff.1 HSX.out).1
    obtain ⟨c3, hc3, hT4⟩ := HT2.out.put HZ2.out hsl (.int .i64 x1) (.int .i64 y1) (.int .i64 z1)
    have HT4 := Lib.hid hT4
    have HC4 := Lib.hid (set3 HSX2.out (.int .i64 x1) (.int .i64 y1) (.int .i64 z1))
    have HZ5 : Hid (c3 sb = 0) := Lib.hid ((hc3 _ hsl).trans HZ2.out)
    have hsw : w.heap.size ≤ sb := by have := HB.out.size; have := HZA.out; have := HQZ.out; have := HQV.out; omega
    have HB4 := Lib.hid (below_set3 HBV.out hsw (.int .i64 x1) (.int .i64 y1) (.int .i64 z1))
    have HLO : Hid (∀ g, g < w.heap.size → c3 g = 0) := Lib.hid fun g hg => by
      have hb1 := HB.out.size
      have hb2 := HZA.out
      have hb3 := HQZ.out
      have hb4 := HQV.out
      rw [hc3 g (by omega), HO2.out g (by omega), HO.out g (by omega)]
    clear hf2 hT4 hc3 HE4 HE' hsw hsl
    go_wp2_with fail
    clear s0 s1 s2 i0 i1 i2 j0 j1 j2 f0 f1 f2
    generalize ((v2.setCell ⟨sb, 0, none⟩ (.int .i64 x1)).setCell ⟨sb, 1, none⟩ (.int .i64 y1)).setCell ⟨sb, 2, none⟩ (.int .i64 z1) = v4 at *
    have HT0 := Lib.hid (HT4.out.go (below_drewN (Below.refl v4.heap.size v4) 1))
    have HC5 : Hid (v4.drew.heap[sb]? = some (.cells #[.int .i64 x1, .int .i64 y1, .int .i64 z1] 25 (0, 0))) := HC4
    refine wp_region_hand 21 (fun W => W.heap[sb]? = some (.cells #[.int .i64 x1, .int .i64 y1, .int .i64 z1] 25 (0, 0))) (by kernel_rfl) (by kernel_rfl) ?_
    rw [show Array.replicate 21 false = #[false, false, false, false, false, false, false, false, false, false, false, false, false, false, false, false, false, false, false, false, false] from rfl]
    have hHeld := HC5.out
    have HCL := Lib.hid (awake15_any v4.drew)
    refine held_one (i := 0) (by kernel_rfl) ?_
    refine held_callX (d := 126) rfl rfl (by rfl) rfl (by kernel_rfl) Try.func12 (by kernel_rfl) HCL.out ?_
    rintro e v6 ⟨rfl, hb6⟩
    have HT6 := Lib.hid (HT0.out.go hb6)
    have HC6 : Hid (v6.heap[sb]? = some (.cells #[.int .i64 x1, .int .i64 y1, .int .i64 z1] 25 (0, 0))) := Lib.hid (HT6.out.kz.heap HZ5.out HC5.out)
    clear hb6
    refine ⟨_, rfl, ?_⟩
    clear HCL hHeld
    have hHeld := HC6.out
    refine ⟨hHeld, ?_⟩
    simp only [Act.put, List.setIfInBounds_toArray, List.set_cons_zero, List.set_cons_succ]
    refine held_take (i := 1) (d := 127) (v := .bool true) rfl rfl (by kernel_rfl) (by kernel_rfl) (by kernel_rfl) (fun _ _ _ h => h) (by rfl) (fun W _ => run_move_is (.tmp 126) rfl rfl W) hHeld ?_
    simp only [Act.put, List.setIfInBounds_toArray, List.set_cons_zero, List.set_cons_succ]
    refine held_take (i := 2) (d := 128) (v := .int .i64 16) rfl rfl (by kernel_rfl) (by kernel_rfl) (by kernel_rfl) (fun _ _ _ h => h) (by rfl) (fun W _ => run_move_is (.tmp 13) rfl rfl W) hHeld ?_
    simp only [Act.put, List.setIfInBounds_toArray, List.set_cons_zero, List.set_cons_succ]
    refine held_take (i := 3) (d := 129) (v := .bool false) rfl rfl (by kernel_rfl) (by kernel_rfl) (by kernel_rfl) (fun _ _ _ h => h) (by rfl) (fun W _ => by go_simp) hHeld ?_
    simp only [Act.put, List.setIfInBounds_toArray, List.set_cons_zero, List.set_cons_succ]
    refine held_take (i := 4) (d := 130) (v := .bool false) rfl rfl (by kernel_rfl) (by kernel_rfl) (by kernel_rfl) (fun _ _ _ h => h) (by rfl) (fun W _ => run_move_is (.tmp 14) rfl rfl W) hHeld ?_
    simp only [Act.put, List.setIfInBounds_toArray, List.set_cons_zero, List.set_cons_succ]
    refine held_take (i := 5) (d := 131) (v := .bool true) rfl rfl (by kernel_rfl) (by kernel_rfl) (by kernel_rfl) (fun _ _ _ h => h) (by rfl) (fun W _ => by go_simp) hHeld ?_
    simp only [Act.put, List.setIfInBounds_toArray, List.set_cons_zero, List.set_cons_succ]
    refine held_take (i := 6) (d := 132) (v := .bool true) rfl rfl (by kernel_rfl) (by kernel_rfl) (by kernel_rfl) (fun _ _ _ h => h) (by rfl) (fun W _ => by go_simp) hHeld ?_
    simp only [Act.put, List.setIfInBounds_toArray, List.set_cons_zero, List.set_cons_succ]
    refine held_take (i := 7) (d := 133) (v := .bool true) rfl rfl (by kernel_rfl) (by kernel_rfl) (by kernel_rfl) (fun _ _ _ h => h) (by rfl) (fun W _ => run_move_is (.tmp 132) rfl rfl W) hHeld ?_
    simp only [Act.put, List.setIfInBounds_toArray, List.set_cons_zero, List.set_cons_succ]
    refine held_take (i := 8) (d := 134) (v := .bool false) rfl rfl (by kernel_rfl) (by kernel_rfl) (by kernel_rfl) (fun _ _ _ h => h) (by rfl) (fun W _ => run_move_is (.tmp 14) rfl rfl W) hHeld ?_
    simp only [Act.put, List.setIfInBounds_toArray, List.set_cons_zero, List.set_cons_succ]
    refine held_take (i := 9) (d := 135) (v := .bool false) rfl rfl (by kernel_rfl) (by kernel_rfl) (by kernel_rfl) (fun _ _ _ h => h) (by rfl) (fun W _ => run_move_is (.tmp 134) rfl rfl W) hHeld ?_
    simp only [Act.put, List.setIfInBounds_toArray, List.set_cons_zero, List.set_cons_succ]
    refine held_take (i := 10) (d := 136) (v := .int .i64 16) rfl rfl (by kernel_rfl) (by kernel_rfl) (by kernel_rfl) (fun _ _ _ h => h) (by rfl) (fun W _ => run_move_is (.tmp 13) rfl rfl W) hHeld ?_
    simp only [Act.put, List.setIfInBounds_toArray, List.set_cons_zero, List.set_cons_succ]
    refine held_take (i := 11) (d := 137) (v := .bool true) rfl rfl (by kernel_rfl) (by kernel_rfl) (by kernel_rfl) (fun _ _ _ h => h) (by rfl) (fun W _ => by go_simp) hHeld ?_
    simp only [Act.put, List.setIfInBounds_toArray, List.set_cons_zero, List.set_cons_succ]
    refine held_take (i := 12) (d := 138) (v := .bool true) rfl rfl (by kernel_rfl) (by kernel_rfl) (by kernel_rfl) (fun _ _ _ h => h) (by rfl) (fun W _ => by go_simp) hHeld ?_
    simp only [Act.put, List.setIfInBounds_toArray, List.set_cons_zero, List.set_cons_succ]
    refine held_take (i := 13) (d := 139) (v := .bool true) rfl rfl (by kernel_rfl) (by kernel_rfl) (by kernel_rfl) (fun _ _ _ h => h) (by rfl) (fun W _ => by go_simp) hHeld ?_
    simp only [Act.put, List.setIfInBounds_toArray, List.set_cons_zero, List.set_cons_succ]
    refine held_take (i := 14) (d := 140) (v := .bool true) rfl rfl (by kernel_rfl) (by kernel_rfl) (by kernel_rfl) (fun _ _ _ h => h) (by rfl) (fun W _ => run_move_is (.tmp 139) rfl rfl W) hHeld ?_
    simp only [Act.put, List.setIfInBounds_toArray, List.set_cons_zero, List.set_cons_succ]
    refine held_take (i := 15) (d := 141) (v := .pointer (some ⟨p, 0, none⟩)) rfl rfl (by kernel_rfl) (by kernel_rfl) (by kernel_rfl) (fun _ _ _ h => h) (by rfl) (fun W _ => run_move_is (.tmp 8) rfl rfl W) hHeld ?_
    simp only [Act.put, List.setIfInBounds_toArray, List.set_cons_zero, List.set_cons_succ]
    refine held_take (i := 17) (d := 143) (v := .agg #[.int .i64 x1, .int .i64 y1, .int .i64 z1]) rfl rfl (by kernel_rfl) (by kernel_rfl) (by kernel_rfl) (fun _ _ _ h => h) (by rfl) (fun W hS => by obtain ⟨g0, g1, g2⟩ := cells3 hS; go_simp) hHeld ?_
    simp only [Act.put, List.setIfInBounds_toArray, List.set_cons_zero, List.set_cons_succ]
    have HCL := Lib.hid (HT6.out.getL' ri1 HXF.out)
    refine held_one (i := 16) (by kernel_rfl) ?_
    refine held_callX (d := 142) rfl rfl (by rfl) rfl (by kernel_rfl) Try.func10 (by kernel_rfl) HCL.out ?_
    rintro e v7 ⟨rfl, hT7⟩
    have HT7 := Lib.hid hT7
    have HC7 : Hid (v7.heap[sb]? = some (.cells #[.int .i64 x1, .int .i64 y1, .int .i64 z1] 25 (0, 0))) := Lib.hid (hT7.kz.heap HZ5.out HC5.out)
    clear hT7
    refine ⟨_, rfl, ?_⟩
    clear HCL hHeld
    have hHeld := HC7.out
    refine ⟨hHeld, ?_⟩
    simp only [Act.put, List.setIfInBounds_toArray, List.set_cons_zero, List.set_cons_succ]
    refine held_take (i := 18) (d := 144) (v := .bool true) rfl rfl (by kernel_rfl) (by kernel_rfl) (by kernel_rfl) (fun _ _ _ h => h) (by rfl) (fun W _ => by have heq := eq_q3 x1 y1 z1 x1 y1 z1; go_simp) hHeld ?_
    simp only [Act.put, List.setIfInBounds_toArray, List.set_cons_zero, List.set_cons_succ]
    refine held_take (i := 19) (d := 145) (v := .bool true) rfl rfl (by kernel_rfl) (by kernel_rfl) (by kernel_rfl) (fun _ _ _ h => h) (by rfl) (fun W _ => by go_simp) hHeld ?_
    simp only [Act.put, List.setIfInBounds_toArray, List.set_cons_zero, List.set_cons_succ]
    refine held_take (i := 20) (d := 6) (v := .bool true) rfl rfl (by kernel_rfl) (by kernel_rfl) (by kernel_rfl) (fun _ _ _ h => h) (by rfl) (fun W _ => by go_simp) hHeld ?_
    simp only [Act.put, List.setIfInBounds_toArray, List.set_cons_zero, List.set_cons_succ]
    refine wpAnyH_done (by kernel_rfl) ?_ _
    clear hHeld
    have HB7 := Lib.hid (HB4.out.trans (HT7.out.kz.below HLO.out HB4.out.size))
    clear HT0 HT6 HT7 HC5 HC6 HC7
    go_wp2
    go_ret
    exact ⟨rfl, HB7.out⟩
  have d2 : decide (z1 + z2 ≤ z0) = true := decide_eq_true u2
  obtain rfl : E' = 0 := by rw [HE4.out, if_pos (by omega)]
  have HXF : Hid (addF ⟨x0, y0, z0⟩ 1 ⟨x2, y2, z2⟩ (addF ⟨x0, y0, z0⟩ 1 ⟨x1, y1, z1⟩ (fun _ => Q3.nul)) 1 = ⟨x1 + x2, y1 + y2, z1 + z2⟩) := Lib.hid (add_at HF1.out HE'.out)
  have HZ5 := HZ2
  clear HE4 HE'
  go_wp2_with fail
  clear s0 s1 s2 i0 i1 i2 j0 j1 j2 f0 f1 f2
  have HT0 := Lib.hid (HT2.out.go (below_drewN (Below.refl v2.heap.size v2) 1))
  have HC5 : Hid (v2.drew.heap[sb]? = some (.cells #[.int .i64 (x1 + x2), .int .i64 (y1 + y2), .int .i64 (z1 + z2)] 25 (0, 0))) := HSX2
  refine wp_region_hand 21 (fun W => W.heap[sb]? = some (.cells #[.int .i64 (x1 + x2), .int .i64 (y1 + y2), .int .i64 (z1 + z2)] 25 (0, 0))) (by kernel_rfl) (by kernel_rfl) ?_
  rw [show Array.replicate 21 false = #[false, false, false, false, false, false, false, false, false, false, false, false, false, false, false, false, false, false, false, false, false] from rfl]
  have hHeld := HC5.out
  have HCL := Lib.hid (awake15_any v2.drew)
  refine held_one (i := 0) (by kernel_rfl) ?_
  refine held_callX (d := 126) rfl rfl (by rfl) rfl (by kernel_rfl) Try.func12 (by kernel_rfl) HCL.out ?_
  rintro e v6 ⟨rfl, hb6⟩
  have HT6 := Lib.hid (HT0.out.go hb6)
  have HC6 : Hid (v6.heap[sb]? = some (.cells #[.int .i64 (x1 + x2), .int .i64 (y1 + y2), .int .i64 (z1 + z2)] 25 (0, 0))) := Lib.hid (HT6.out.kz.heap HZ5.out HSX.out)
  clear hb6
  refine ⟨_, rfl, ?_⟩
  clear HCL hHeld
  have hHeld := HC6.out
  refine ⟨hHeld, ?_⟩
  simp only [Act.put, List.setIfInBounds_toArray, List.set_cons_zero, List.set_cons_succ]
  refine held_take (i := 1) (d := 127) (v := .bool true) rfl rfl (by kernel_rfl) (by kernel_rfl) (by kernel_rfl) (fun _ _ _ h => h) (by rfl) (fun W _ => run_move_is (.tmp 126) rfl rfl W) hHeld ?_
  simp only [Act.put, List.setIfInBounds_toArray, List.set_cons_zero, List.set_cons_succ]
  refine held_take (i := 2) (d := 128) (v := .int .i64 0) rfl rfl (by kernel_rfl) (by kernel_rfl) (by kernel_rfl) (fun _ _ _ h => h) (by rfl) (fun W _ => run_move_is (.tmp 13) rfl rfl W) hHeld ?_
  simp only [Act.put, List.setIfInBounds_toArray, List.set_cons_zero, List.set_cons_succ]
  refine held_take (i := 3) (d := 129) (v := .bool true) rfl rfl (by kernel_rfl) (by kernel_rfl) (by kernel_rfl) (fun _ _ _ h => h) (by rfl) (fun W _ => by go_simp) hHeld ?_
  simp only [Act.put, List.setIfInBounds_toArray, List.set_cons_zero, List.set_cons_succ]
  refine held_take (i := 4) (d := 130) (v := .bool true) rfl rfl (by kernel_rfl) (by kernel_rfl) (by kernel_rfl) (fun _ _ _ h => h) (by rfl) (fun W _ => run_move_is (.tmp 14) rfl rfl W) hHeld ?_
  simp only [Act.put, List.setIfInBounds_toArray, List.set_cons_zero, List.set_cons_succ]
  refine held_take (i := 5) (d := 131) (v := .bool true) rfl rfl (by kernel_rfl) (by kernel_rfl) (by kernel_rfl) (fun _ _ _ h => h) (by rfl) (fun W _ => by go_simp) hHeld ?_
  simp only [Act.put, List.setIfInBounds_toArray, List.set_cons_zero, List.set_cons_succ]
  refine held_take (i := 6) (d := 132) (v := .bool true) rfl rfl (by kernel_rfl) (by kernel_rfl) (by kernel_rfl) (fun _ _ _ h => h) (by rfl) (fun W _ => by go_simp) hHeld ?_
  simp only [Act.put, List.setIfInBounds_toArray, List.set_cons_zero, List.set_cons_succ]
  refine held_take (i := 7) (d := 133) (v := .bool true) rfl rfl (by kernel_rfl) (by kernel_rfl) (by kernel_rfl) (fun _ _ _ h => h) (by rfl) (fun W _ => run_move_is (.tmp 132) rfl rfl W) hHeld ?_
  simp only [Act.put, List.setIfInBounds_toArray, List.set_cons_zero, List.set_cons_succ]
  refine held_take (i := 8) (d := 134) (v := .bool true) rfl rfl (by kernel_rfl) (by kernel_rfl) (by kernel_rfl) (fun _ _ _ h => h) (by rfl) (fun W _ => run_move_is (.tmp 14) rfl rfl W) hHeld ?_
  simp only [Act.put, List.setIfInBounds_toArray, List.set_cons_zero, List.set_cons_succ]
  refine held_take (i := 9) (d := 135) (v := .bool true) rfl rfl (by kernel_rfl) (by kernel_rfl) (by kernel_rfl) (fun _ _ _ h => h) (by rfl) (fun W _ => run_move_is (.tmp 134) rfl rfl W) hHeld ?_
  simp only [Act.put, List.setIfInBounds_toArray, List.set_cons_zero, List.set_cons_succ]
  refine held_pass (i := 10) (d := 136) rfl rfl (by kernel_rfl) (by kernel_rfl) (by kernel_rfl) (fun _ _ _ h => h) (by rfl) hHeld ?_
  simp only [Act.put, List.setIfInBounds_toArray, List.set_cons_zero, List.set_cons_succ]
  refine held_pass (i := 11) (d := 137) rfl rfl (by kernel_rfl) (by kernel_rfl) (by kernel_rfl) (fun _ _ _ h => h) (by rfl) hHeld ?_
  simp only [Act.put, List.setIfInBounds_toArray, List.set_cons_zero, List.set_cons_succ]
  refine held_take (i := 12) (d := 138) (v := .bool true) rfl rfl (by kernel_rfl) (by kernel_rfl) (by kernel_rfl) (fun _ _ _ h => h) (by rfl) (fun W _ => by go_simp) hHeld ?_
  simp only [Act.put, List.setIfInBounds_toArray, List.set_cons_zero, List.set_cons_succ]
  refine held_take (i := 13) (d := 139) (v := .bool true) rfl rfl (by kernel_rfl) (by kernel_rfl) (by kernel_rfl) (fun _ _ _ h => h) (by rfl) (fun W _ => by go_simp) hHeld ?_
  simp only [Act.put, List.setIfInBounds_toArray, List.set_cons_zero, List.set_cons_succ]
  refine held_take (i := 14) (d := 140) (v := .bool true) rfl rfl (by kernel_rfl) (by kernel_rfl) (by kernel_rfl) (fun _ _ _ h => h) (by rfl) (fun W _ => run_move_is (.tmp 139) rfl rfl W) hHeld ?_
  simp only [Act.put, List.setIfInBounds_toArray, List.set_cons_zero, List.set_cons_succ]
  refine held_take (i := 15) (d := 141) (v := .pointer (some ⟨p, 0, none⟩)) rfl rfl (by kernel_rfl) (by kernel_rfl) (by kernel_rfl) (fun _ _ _ h => h) (by rfl) (fun W _ => run_move_is (.tmp 8) rfl rfl W) hHeld ?_
  simp only [Act.put, List.setIfInBounds_toArray, List.set_cons_zero, List.set_cons_succ]
  refine held_take (i := 17) (d := 143) (v := .agg #[.int .i64 (x1 + x2), .int .i64 (y1 + y2), .int .i64 (z1 + z2)]) rfl rfl (by kernel_rfl) (by kernel_rfl) (by kernel_rfl) (fun _ _ _ h => h) (by rfl) (fun W hS => by obtain ⟨g0, g1, g2⟩ := cells3 hS; go_simp) hHeld ?_
  simp only [Act.put, List.setIfInBounds_toArray, List.set_cons_zero, List.set_cons_succ]
  have HCL := Lib.hid (HT6.out.getL' ri1 HXF.out)
  refine held_one (i := 16) (by kernel_rfl) ?_
  refine held_callX (d := 142) rfl rfl (by rfl) rfl (by kernel_rfl) Try.func10 (by kernel_rfl) HCL.out ?_
  rintro e v7 ⟨rfl, hT7⟩
  have HT7 := Lib.hid hT7
  have HC7 : Hid (v7.heap[sb]? = some (.cells #[.int .i64 (x1 + x2), .int .i64 (y1 + y2), .int .i64 (z1 + z2)] 25 (0, 0))) := Lib.hid (hT7.kz.heap HZ5.out HSX.out)
  clear hT7
  refine ⟨_, rfl, ?_⟩
  clear HCL hHeld
  have hHeld := HC7.out
  refine ⟨hHeld, ?_⟩
  simp only [Act.put, List.setIfInBounds_toArray, List.set_cons_zero, List.set_cons_succ]
  refine held_take (i := 18) (d := 144) (v := .bool true) rfl rfl (by kernel_rfl) (by kernel_rfl) (by kernel_rfl) (fun _ _ _ h => h) (by rfl) (fun W _ => by have heq := eq_q3 (x1 + x2) (y1 + y2) (z1 + z2) (x1 + x2) (y1 + y2) (z1 + z2); go_simp) hHeld ?_
  simp only [Act.put, List.setIfInBounds_toArray, List.set_cons_zero, List.set_cons_succ]
  refine held_take (i := 19) (d := 145) (v := .bool true) rfl rfl (by kernel_rfl) (by kernel_rfl) (by kernel_rfl) (fun _ _ _ h => h) (by rfl) (fun W _ => by go_simp) hHeld ?_
  simp only [Act.put, List.setIfInBounds_toArray, List.set_cons_zero, List.set_cons_succ]
  refine held_take (i := 20) (d := 6) (v := .bool true) rfl rfl (by kernel_rfl) (by kernel_rfl) (by kernel_rfl) (fun _ _ _ h => h) (by rfl) (fun W _ => by go_simp) hHeld ?_
  simp only [Act.put, List.setIfInBounds_toArray, List.set_cons_zero, List.set_cons_succ]
  refine wpAnyH_done (by kernel_rfl) ?_ _
  clear hHeld
  have HB7 := Lib.hid (HB.out.trans ((HBK.out _ _ _ (HBK2.out _ _ _ HT7.out)).mono HB.out.size))
  clear HT0 HT6 HT7 HC5 HC6 HC7
  go_wp2
  go_ret
  exact ⟨rfl, HB7.out⟩
end Go.Proofs.Ytfhpdjlppblkcaa
