/-
  The law QuotaApart as a walk: called with any arguments of its types it returns true. No conditions.
-/
import Derived.Test.YtfhpdjlppblkcaaQbaLaw
namespace Go.Proofs.Ytfhpdjlppblkcaa
open Go.ChangeShapes Go.WideShapes Go.RowKit
set_option linter.unusedVariables false
set_option linter.unusedSimpArgs false
set_option maxHeartbeats 8000000
set_option maxRecDepth 100000

theorem ri9 : Ri 9 := WalkArith.wf_i64 (by omega)
theorem quotaApart_walk (a0 : Option Addr) (len0 cap0 : Nat) (pl : Int) (q : Q3) (w : World) (w0 : Fiv w w.heap.size a0 len0 cap0) (hp : (Lit.int .i64 pl).wf = true) (hq : q.In) :
    Calls Try.prog 7 #[.slice a0 len0 cap0, .int .i64 pl, q.val] w fun e w' => e = .returned (.bool true) ∧ Below w.heap.size w w' := by
  obtain ⟨qb, qo, qh⟩ := q
  have HD := Lib.hid w0
  have hcap := w0.cap
  have hsm := w0.small
  unfold maxLen at hsm
  have HRP : Hid (Ri pl) := Lib.hid hp
  have HQI := Lib.hid hq
  have HLI : Hid (Q3.In ⟨300, 9, 9⟩) := Lib.hid (by simp [Q3.In])
  unfold Q3.val
  simp only
  have hs0 : (w.alloc (.cells #[.int .i64 qb, .int .i64 qo, .int .i64 qh] 25)).heap.size = w.heap.size + 1 := by simp
  have k0 : ((w.alloc (.cells #[.int .i64 qb, .int .i64 qo, .int .i64 qh] 25)).alloc (.cells #[.int .i64 300, .int .i64 9, .int .i64 9] 25)).heap[w.heap.size]? = some (.cells #[.int .i64 qb, .int .i64 qo, .int .i64 qh] 25 (0, 0)) := by
    rw [Below.heap_alloc _ _ _ (by omega)]
    exact heap_alloc_new w _
  have k1 : ((w.alloc (.cells #[.int .i64 qb, .int .i64 qo, .int .i64 qh] 25)).alloc (.cells #[.int .i64 300, .int .i64 9, .int .i64 9] 25)).heap[w.heap.size + 1]? = some (.cells #[.int .i64 300, .int .i64 9, .int .i64 9] 25 (0, 0)) := by
    have := heap_alloc_new (w.alloc (.cells #[.int .i64 qb, .int .i64 qo, .int .i64 qh] 25)) (.cells #[.int .i64 300, .int .i64 9, .int .i64 9] 25)
    rw [hs0] at this
    exact this
  have hbw : Below w.heap.size w ((w.alloc (.cells #[.int .i64 qb, .int .i64 qo, .int .i64 qh] 25)).alloc (.cells #[.int .i64 300, .int .i64 9, .int .i64 9] 25)) := ((Below.refl _ _).alloc (Nat.le_refl _) _).alloc (by omega) _
  have HB := Lib.hid hbw
  have HQ := Lib.hid k0
  have HL := Lib.hid k1
  have HN := Lib.hid (newQ_any ⟨300, 9, 9⟩ ((w.alloc (.cells #[.int .i64 qb, .int .i64 qo, .int .i64 qh] 25)).alloc (.cells #[.int .i64 300, .int .i64 9, .int .i64 9] 25)) (fun _ => 0) 1)
  unfold Q3.val at HN
  simp only at HN
  clear w0 hp hq hs0 k0 k1 hbw
  go_enter Try.func7, Try.ntmps7
  go_wp2_with fail
  generalize (w.alloc (.cells #[.int .i64 qb, .int .i64 qo, .int .i64 qh] 25)).alloc (.cells #[.int .i64 300, .int .i64 9, .int .i64 9] 25) = w3 at *
  refine HN.out.mono ?_
  rintro e wa ⟨p, rfl, hp, hL, hb⟩
  have hl := (hb.block _ (Array.getElem?_eq_some_iff.1 HL.out).1).trans HL.out
  obtain ⟨q0, q1, q2⟩ := cells3 hl
  have hl2 := (Below.heap_alloc wa (.cells #[.int .i64 300, .int .i64 9, .int .i64 9, .slice none 0 0] 31) _ (Array.getElem?_eq_some_iff.1 hl).1).trans hl
  obtain ⟨r0, r1, r2⟩ := cells3 hl2
  have hm := Ts.made hL hb
  simp only at hm
  have HLX : Hid (∀ W, Below w3.heap.size w3 W → W.heap[w.heap.size + 1]? = some (.cells #[.int .i64 300, .int .i64 9, .int .i64 9] 25 (0, 0))) := Lib.hid fun W hW => (hW.block _ (Array.getElem?_eq_some_iff.1 HL.out).1).trans HL.out
  have hE1 : fitE ⟨300, 9, 9⟩ ((fun _ => Q3.nul : Int → Q3) 9) ⟨300, 9, 9⟩ = 0 := by decide
  have HA := Lib.hid (hm.addL' HLI.out ri9 (by omega) hE1)
  have HE1 := Lib.hid hE1
  clear HN hL hb hm hl hl2 hE1
  go_wp2_with fail
  generalize wa.alloc (.cells #[.int .i64 300, .int .i64 9, .int .i64 9, .slice none 0 0] 31) = wb at *
  generalize wa.heap.size = m at *
  refine HA.out.mono ?_
  rintro e wc ⟨rfl, hT⟩
  obtain ⟨s0, s1, s2⟩ := cells3 (HLX.out _ hT.below)
  have HA2 := Lib.hid (hT.addR' (z := 9) HLI.out HLI.out (by omega) HE1.out)
  clear HA hT q0 q1 q2 r0 r1 r2
  go_wp2_with fail
  refine HA2.out.mono ?_
  rintro e wd ⟨rfl, hT⟩
  have hf9 : addF ⟨300, 9, 9⟩ 9 ⟨300, 9, 9⟩ (fun _ => Q3.nul) 9 = ⟨300, 9, 9⟩ := by rw [add_at (f := fun _ => Q3.nul) (z := 9) (x := Q3.nul) rfl HE1.out]; simp [Q3.add, Q3.nul]
  have HT1 : Hid (∃ f, f 9 = ⟨300, 9, 9⟩ ∧ Ts w3 (fun _ => 0) (4 * 0 + 2) p m ⟨300, 9, 9⟩ f f wd) := Lib.hid ⟨_, hf9, hT.mono (by omega)⟩
  clear HA2 hT hf9 HE1 s0 s1 s2
  go_wp2
  go_loopw [10] (fun kv wr => ∃ i : Nat, i ≤ len0 ∧ i ≤ 30 ∧ kv = .int .i64 i ∧ Hid (∃ f, f 9 = ⟨300, 9, 9⟩ ∧ Ts w3 (fun _ => 0) (4 * i + 2) p m ⟨300, 9, 9⟩ f f wr)) (fun kv _ => 30 - (intOf kv).toNat)
  case atStart => exact ⟨0, by omega, by omega, rfl, HT1⟩
  case round =>
    rename World => wv
    obtain ⟨i, hi, hi30, rfl, hh⟩ := hrel
    have hi0 : (0 : Int) ≤ (i : Int) := by omega
    by_cases hin : i < len0
    · have hi1 : (i : Int) < (len0 : Int) := by omega
      by_cases h30 : i < 30
      · have hi2 : (i : Int) < 30 := by omega
        obtain ⟨f, hF, hT⟩ := hh.out
        obtain ⟨b, o, x0, x1, x2, x3, x4, rfl, hc, c0, c1, c2, c3, c4⟩ := HD.out.load hin
        have HCE : Hid (∀ W, Below w3.heap.size w3 W → W.cell? ⟨b, o + i * 5, none⟩ = some (.int .u8 x0) ∧ W.cell? ⟨b, o + i * 5 + 1, none⟩ = some (.int .u8 x1) ∧ W.cell? ⟨b, o + i * 5 + 2, none⟩ = some (.int .u8 x2) ∧ W.cell? ⟨b, o + i * 5 + 3, none⟩ = some (.int .u8 x3) ∧ W.cell? ⟨b, o + i * 5 + 4, none⟩ = some (.int .u8 x4)) := Lib.hid fun W hW => hc W (HB.out.trans (hW.mono HB.out.size))
        have HT0 := Lib.hid (hT.go (below_drewN (Below.refl wv.heap.size wv) 1))
        have HB0 : Hid (Below w3.heap.size w3 wv.drew) := Lib.hid HT0.out.below
        have HF := Lib.hid hF
        have e4 := Int.emod_lt_of_pos x1 (show (0 : Int) < 4 by omega)
        clear hh hc hF hT
        go_wp2_with fail
        refine wp_region_hand 14 (fun W => Below w3.heap.size w3 W) (by kernel_rfl) (by kernel_rfl) ?_
        rw [show Array.replicate 14 false = #[false, false, false, false, false, false, false, false, false, false, false, false, false, false] from rfl]
        have hHeld := HB0.out
        refine held_take (i := 0) (d := 40) (v := .pointer (some ⟨p, 0, none⟩)) rfl rfl (by kernel_rfl) (by kernel_rfl) (by kernel_rfl) (fun _ _ _ h => h) (by rfl) (fun W _ => run_move_is (.tmp 8) rfl rfl W) hHeld ?_
        simp only [Act.put, List.setIfInBounds_toArray, List.set_cons_zero, List.set_cons_succ]
        refine held_take (i := 1) (d := 41) (v := .pointer (some ⟨m, 0, none⟩)) rfl rfl (by kernel_rfl) (by kernel_rfl) (by kernel_rfl) (fun _ _ _ h => h) (by rfl) (fun W _ => run_move_is (.tmp 9) rfl rfl W) hHeld ?_
        simp only [Act.put, List.setIfInBounds_toArray, List.set_cons_zero, List.set_cons_succ]
        refine held_take (i := 2) (d := 42) (v := .slice (some ⟨b, o, none⟩) len0 cap0) rfl rfl (by kernel_rfl) (by kernel_rfl) (by kernel_rfl) (fun _ _ _ h => h) (by rfl) (fun W _ => run_move_is (.tmp 0) rfl rfl W) hHeld ?_
        simp only [Act.put, List.setIfInBounds_toArray, List.set_cons_zero, List.set_cons_succ]
        refine held_take (i := 3) (d := 43) (v := .int .i64 (i : Int)) rfl rfl (by kernel_rfl) (by kernel_rfl) (by kernel_rfl) (fun _ _ _ h => h) (by rfl) (fun W _ => run_move_is (.tmp 10) rfl rfl W) hHeld ?_
        simp only [Act.put, List.setIfInBounds_toArray, List.set_cons_zero, List.set_cons_succ]
        refine held_take (i := 4) (d := 44) (v := .pointer (some ⟨b, o + i * 5, none⟩)) rfl rfl (by kernel_rfl) (by kernel_rfl) (by kernel_rfl) (fun _ _ _ h => h) (by rfl) (fun W _ => by go_simp) hHeld ?_
        simp only [Act.put, List.setIfInBounds_toArray, List.set_cons_zero, List.set_cons_succ]
        refine held_take (i := 5) (d := 45) (v := .agg #[.int .u8 x0, .int .u8 x1, .int .u8 x2, .int .u8 x3, .int .u8 x4]) rfl rfl (by kernel_rfl) (by kernel_rfl) (by kernel_rfl) (fun _ _ _ h => h) (by rfl) (fun W hS => by obtain ⟨g0, g1, g2, g3, g4⟩ := HCE.out W hS; go_simp) hHeld ?_
        simp only [Act.put, List.setIfInBounds_toArray, List.set_cons_zero, List.set_cons_succ]
        have HCL := Lib.hid (HT0.out.step HLI.out (by omega) x0 x1 x2 x3 x4 c0 c1 c2 c3 c4)
        refine held_one (i := 6) (by kernel_rfl) ?_
        refine held_callX (d := 46) rfl rfl (by rfl) rfl (by kernel_rfl) Try.func9 (by kernel_rfl) HCL.out ?_
        rintro e v1 ⟨rfl, hT1⟩
        have HT1 := Lib.hid hT1
        have HB1 := Lib.hid hT1.below
        have HF1 := Lib.hid ((stp_ne (l := ⟨300, 9, 9⟩) (x0 := x0) (q := amt x2 x3 x4) (f := f) (show (9 : Int) ≠ x1 % 4 by omega)).trans HF.out)
        clear hT1
        refine ⟨_, rfl, ?_⟩
        clear HCL hHeld
        have hHeld := HB1.out
        refine ⟨hHeld, ?_⟩
        simp only [Act.put, List.setIfInBounds_toArray, List.set_cons_zero, List.set_cons_succ]
        refine held_take (i := 7) (d := 47) (v := .bool false) rfl rfl (by kernel_rfl) (by kernel_rfl) (by kernel_rfl) (fun _ _ _ h => h) (by rfl) (fun W _ => by go_simp) hHeld ?_
        simp only [Act.put, List.setIfInBounds_toArray, List.set_cons_zero, List.set_cons_succ]
        refine held_take (i := 8) (d := 48) (v := .bool false) rfl rfl (by kernel_rfl) (by kernel_rfl) (by kernel_rfl) (fun _ _ _ h => h) (by rfl) (fun W _ => run_move_is (.tmp 47) rfl rfl W) hHeld ?_
        simp only [Act.put, List.setIfInBounds_toArray, List.set_cons_zero, List.set_cons_succ]
        refine held_take (i := 9) (d := 49) (v := .pointer (some ⟨p, 0, none⟩)) rfl rfl (by kernel_rfl) (by kernel_rfl) (by kernel_rfl) (fun _ _ _ h => h) (by rfl) (fun W _ => run_move_is (.tmp 8) rfl rfl W) hHeld ?_
        simp only [Act.put, List.setIfInBounds_toArray, List.set_cons_zero, List.set_cons_succ]
        refine held_take (i := 11) (d := 51) (v := .agg #[.int .i64 300, .int .i64 9, .int .i64 9]) rfl rfl (by kernel_rfl) (by kernel_rfl) (by kernel_rfl) (fun _ _ _ h => h) (by rfl) (fun W hS => by obtain ⟨g0, g1, g2⟩ := cells3 (HLX.out W hS); go_simp) hHeld ?_
        simp only [Act.put, List.setIfInBounds_toArray, List.set_cons_zero, List.set_cons_succ]
        have HCL := Lib.hid (HT1.out.getL' ri9 HF1.out)
        refine held_one (i := 10) (by kernel_rfl) ?_
        refine held_callX (d := 50) rfl rfl (by rfl) rfl (by kernel_rfl) Try.func10 (by kernel_rfl) HCL.out ?_
        rintro e v2 ⟨rfl, hT2⟩
        have HT2 := Lib.hid hT2
        have HB2 := Lib.hid hT2.below
        clear hT2
        refine ⟨_, rfl, ?_⟩
        clear HCL hHeld
        have hHeld := HB2.out
        refine ⟨hHeld, ?_⟩
        simp only [Act.put, List.setIfInBounds_toArray, List.set_cons_zero, List.set_cons_succ]
        refine held_take (i := 12) (d := 52) (v := .bool false) rfl rfl (by kernel_rfl) (by kernel_rfl) (by kernel_rfl) (fun _ _ _ h => h) (by rfl) (fun W _ => by have heq := eq_q3 300 9 9 300 9 9; go_simp) hHeld ?_
        simp only [Act.put, List.setIfInBounds_toArray, List.set_cons_zero, List.set_cons_succ]
        refine held_take (i := 13) (d := 53) (v := .bool false) rfl rfl (by kernel_rfl) (by kernel_rfl) (by kernel_rfl) (fun _ _ _ h => h) (by rfl) (fun W _ => by go_simp) hHeld ?_
        simp only [Act.put, List.setIfInBounds_toArray, List.set_cons_zero, List.set_cons_succ]
        refine wpAnyH_done (by kernel_rfl) ?_ _
        clear hHeld
        have HTN : Hid (∃ f, f 9 = ⟨300, 9, 9⟩ ∧ Ts w3 (fun _ => 0) (4 * (i + 1) + 2) p m ⟨300, 9, 9⟩ f f v2) := Lib.hid ⟨_, HF1.out, HT2.out.mono (by omega)⟩
        clear HT0 HT1 HT2 HB0 HB1 HB2 HF1 HF HCE
        go_wp2
        go_roundw
        case rel => exact ⟨i + 1, by omega, by omega, by go_num, HTN⟩
        case measure => simp [intOf]; omega
      · have hi2 : ¬ (i : Int) < 30 := by omega
        obtain ⟨f, hF, hT⟩ := hh.out
        have HBV := Lib.hid hT.below
        clear hh hF hT
        have hmz := Mtr.made wv (fun _ => 0) 1 Q3.nul
        have hbz : Below wv.heap.size wv (wv.alloc (.cells (mcs Q3.nul none) 47)) := (Below.refl _ _).alloc (Nat.le_refl _) _
        have htz := Ts.made hmz hbz
        unfold mcs Q3.nul at htz
        simp only at htz
        rw [show (wv.alloc (.cells #[.int .i64 0, .int .i64 0, .int .i64 0, .map none] 47)).heap.size = wv.heap.size + 1 by simp] at htz
        have HTZ := Lib.hid htz
        have hq3 := (HBV.out.block _ (Array.getElem?_eq_some_iff.1 HQ.out).1).trans HQ.out
        have HQ0 := Lib.hid hq3
        have HQL := Lib.hid (Array.getElem?_eq_some_iff.1 hq3).1
        have hqz : ((wv.alloc (.cells #[.int .i64 0, .int .i64 0, .int .i64 0, .map none] 47)).alloc (.cells #[.int .i64 0, .int .i64 0, .int .i64 0, .slice none 0 0] 31)).heap[w.heap.size]? = some (.cells #[.int .i64 qb, .int .i64 qo, .int .i64 qh] 25 (0, 0)) := by
          have hl := HQL.out
          rw [Below.heap_alloc _ _ _ (by simp; omega), Below.heap_alloc _ _ _ hl]
          exact hq3
        have HQZ := Lib.hid hqz
        have HNI : Hid (Q3.In ⟨0, 0, 0⟩) := Lib.hid (by simp [Q3.In])
        obtain ⟨E, hE⟩ : ∃ E, fitE ⟨0, 0, 0⟩ ((fun _ => Q3.mk 0 0 0) pl) ⟨qb, qo, qh⟩ = E := ⟨_, rfl⟩
        have HE := Lib.hid hE
        obtain ⟨⟨yb, yo, yh⟩, hy⟩ : ∃ x, addF ⟨0, 0, 0⟩ pl ⟨qb, qo, qh⟩ (fun _ => Q3.mk 0 0 0) pl = x := ⟨_, rfl⟩
        have HY := Lib.hid hy
        have HRN := Lib.hid (reset_nil wv pl)
        clear hmz hbz htz hq3 hqz hE hy
        go_wp2_with fail
        refine HRN.out.mono ?_
        rintro e wn ⟨rfl, rfl⟩
        clear HRN
        go_wp2_with fail
        generalize (wv.alloc (.cells #[.int .i64 0, .int .i64 0, .int .i64 0, .map none] 47)).alloc (.cells #[.int .i64 0, .int .i64 0, .int .i64 0, .slice none 0 0] 31) = wz at *
        have HT0 := Lib.hid (HTZ.out.go (below_drewN (Below.refl wz.heap.size wz) 1))
        have HC0 : Hid (wz.drew.heap[w.heap.size]? = some (.cells #[.int .i64 qb, .int .i64 qo, .int .i64 qh] 25 (0, 0))) := HQZ
        refine wp_region_hand 50 (fun W => W.heap[w.heap.size]? = some (.cells #[.int .i64 qb, .int .i64 qo, .int .i64 qh] 25 (0, 0))) (by kernel_rfl) (by kernel_rfl) ?_
        rw [show Array.replicate 50 false = #[false, false, false, false, false, false, false, false, false, false, false, false, false, false, false, false, false, false, false, false, false, false, false, false, false, false, false, false, false, false, false, false, false, false, false, false, false, false, false, false, false, false, false, false, false, false, false, false, false, false] from rfl]
        have hHeld := HC0.out
        have HCL := Lib.hid (awake15_any wz.drew)
        refine held_one (i := 0) (by kernel_rfl) ?_
        refine held_callX (d := 61) rfl rfl (by rfl) rfl (by kernel_rfl) Try.func12 (by kernel_rfl) HCL.out ?_
        rintro e v1 ⟨rfl, hb1⟩
        have HT1 := Lib.hid (HT0.out.go hb1)
        have HC1 : Hid (v1.heap[w.heap.size]? = some (.cells #[.int .i64 qb, .int .i64 qo, .int .i64 qh] 25 (0, 0))) := Lib.hid ((hb1.block _ (Array.getElem?_eq_some_iff.1 HC0.out).1).trans HC0.out)
        clear hb1
        refine ⟨_, rfl, ?_⟩
        clear HCL hHeld
        have hHeld := HC1.out
        refine ⟨hHeld, ?_⟩
        simp only [Act.put, List.setIfInBounds_toArray, List.set_cons_zero, List.set_cons_succ]
        refine held_take (i := 1) (d := 62) (v := .bool true) rfl rfl (by kernel_rfl) (by kernel_rfl) (by kernel_rfl) (fun _ _ _ h => h) (by rfl) (fun W _ => run_move_is (.tmp 61) rfl rfl W) hHeld ?_
        simp only [Act.put, List.setIfInBounds_toArray, List.set_cons_zero, List.set_cons_succ]
        refine held_take (i := 2) (d := 63) (v := .pointer none) rfl rfl (by kernel_rfl) (by kernel_rfl) (by kernel_rfl) (fun _ _ _ h => h) (by rfl) (fun W _ => run_move_is (.tmp 11) rfl rfl W) hHeld ?_
        simp only [Act.put, List.setIfInBounds_toArray, List.set_cons_zero, List.set_cons_succ]
        refine held_take (i := 3) (d := 64) (v := .int .i64 pl) rfl rfl (by kernel_rfl) (by kernel_rfl) (by kernel_rfl) (fun _ _ _ h => h) (by rfl) (fun W _ => run_move_is (.tmp 1) rfl rfl W) hHeld ?_
        simp only [Act.put, List.setIfInBounds_toArray, List.set_cons_zero, List.set_cons_succ]
        refine held_take (i := 4) (d := 65) (v := .agg #[.int .i64 qb, .int .i64 qo, .int .i64 qh]) rfl rfl (by kernel_rfl) (by kernel_rfl) (by kernel_rfl) (fun _ _ _ h => h) (by rfl) (fun W hS => by obtain ⟨g0, g1, g2⟩ := cells3 hS; go_simp) hHeld ?_
        simp only [Act.put, List.setIfInBounds_toArray, List.set_cons_zero, List.set_cons_succ]
        have HCL := Lib.hid (add_nil v1 pl (Q3.mk qb qo qh))
        refine held_one (i := 5) (by kernel_rfl) ?_
        refine held_callX (d := 66) rfl rfl (by rfl) rfl (by kernel_rfl) Try.func15 (by kernel_rfl) HCL.out ?_
        rintro e v2 ⟨rfl, hb2⟩
        have HT2 := Lib.hid (HT1.out.go hb2)
        have HC2 : Hid (v2.heap[w.heap.size]? = some (.cells #[.int .i64 qb, .int .i64 qo, .int .i64 qh] 25 (0, 0))) := Lib.hid ((hb2.block _ (Array.getElem?_eq_some_iff.1 HC1.out).1).trans HC1.out)
        clear hb2
        refine ⟨_, rfl, ?_⟩
        clear HCL hHeld
        have hHeld := HC2.out
        refine ⟨hHeld, ?_⟩
        simp only [Act.put, List.setIfInBounds_toArray, List.set_cons_zero, List.set_cons_succ]
        refine held_take (i := 6) (d := 67) (v := .bool true) rfl rfl (by kernel_rfl) (by kernel_rfl) (by kernel_rfl) (fun _ _ _ h => h) (by rfl) (fun W _ => by go_simp) hHeld ?_
        simp only [Act.put, List.setIfInBounds_toArray, List.set_cons_zero, List.set_cons_succ]
        refine held_take (i := 7) (d := 68) (v := .bool true) rfl rfl (by kernel_rfl) (by kernel_rfl) (by kernel_rfl) (fun _ _ _ h => h) (by rfl) (fun W _ => by go_simp) hHeld ?_
        simp only [Act.put, List.setIfInBounds_toArray, List.set_cons_zero, List.set_cons_succ]
        refine held_take (i := 8) (d := 69) (v := .bool true) rfl rfl (by kernel_rfl) (by kernel_rfl) (by kernel_rfl) (fun _ _ _ h => h) (by rfl) (fun W _ => run_move_is (.tmp 68) rfl rfl W) hHeld ?_
        simp only [Act.put, List.setIfInBounds_toArray, List.set_cons_zero, List.set_cons_succ]
        refine held_take (i := 9) (d := 70) (v := .pointer none) rfl rfl (by kernel_rfl) (by kernel_rfl) (by kernel_rfl) (fun _ _ _ h => h) (by rfl) (fun W _ => run_move_is (.tmp 11) rfl rfl W) hHeld ?_
        simp only [Act.put, List.setIfInBounds_toArray, List.set_cons_zero, List.set_cons_succ]
        refine held_take (i := 10) (d := 71) (v := .int .i64 pl) rfl rfl (by kernel_rfl) (by kernel_rfl) (by kernel_rfl) (fun _ _ _ h => h) (by rfl) (fun W _ => run_move_is (.tmp 1) rfl rfl W) hHeld ?_
        simp only [Act.put, List.setIfInBounds_toArray, List.set_cons_zero, List.set_cons_succ]
        refine held_take (i := 11) (d := 72) (v := .agg #[.int .i64 qb, .int .i64 qo, .int .i64 qh]) rfl rfl (by kernel_rfl) (by kernel_rfl) (by kernel_rfl) (fun _ _ _ h => h) (by rfl) (fun W hS => by obtain ⟨g0, g1, g2⟩ := cells3 hS; go_simp) hHeld ?_
        simp only [Act.put, List.setIfInBounds_toArray, List.set_cons_zero, List.set_cons_succ]
        have HCL := Lib.hid (fits_nil v2 pl (Q3.mk qb qo qh))
        refine held_one (i := 12) (by kernel_rfl) ?_
        refine held_callX (d := 73) rfl rfl (by rfl) rfl (by kernel_rfl) Try.func13 (by kernel_rfl) HCL.out ?_
        rintro e v3 ⟨rfl, hb3⟩
        have HT3 := Lib.hid (HT2.out.go hb3)
        have HC3 : Hid (v3.heap[w.heap.size]? = some (.cells #[.int .i64 qb, .int .i64 qo, .int .i64 qh] 25 (0, 0))) := Lib.hid ((hb3.block _ (Array.getElem?_eq_some_iff.1 HC2.out).1).trans HC2.out)
        clear hb3
        refine ⟨_, rfl, ?_⟩
        clear HCL hHeld
        have hHeld := HC3.out
        refine ⟨hHeld, ?_⟩
        simp only [Act.put, List.setIfInBounds_toArray, List.set_cons_zero, List.set_cons_succ]
        refine held_take (i := 13) (d := 74) (v := .bool true) rfl rfl (by kernel_rfl) (by kernel_rfl) (by kernel_rfl) (fun _ _ _ h => h) (by rfl) (fun W _ => by go_simp) hHeld ?_
        simp only [Act.put, List.setIfInBounds_toArray, List.set_cons_zero, List.set_cons_succ]
        refine held_take (i := 14) (d := 75) (v := .bool true) rfl rfl (by kernel_rfl) (by kernel_rfl) (by kernel_rfl) (fun _ _ _ h => h) (by rfl) (fun W _ => by go_simp) hHeld ?_
        simp only [Act.put, List.setIfInBounds_toArray, List.set_cons_zero, List.set_cons_succ]
        refine held_take (i := 15) (d := 76) (v := .bool true) rfl rfl (by kernel_rfl) (by kernel_rfl) (by kernel_rfl) (fun _ _ _ h => h) (by rfl) (fun W _ => run_move_is (.tmp 75) rfl rfl W) hHeld ?_
        simp only [Act.put, List.setIfInBounds_toArray, List.set_cons_zero, List.set_cons_succ]
        refine held_take (i := 16) (d := 77) (v := .pointer none) rfl rfl (by kernel_rfl) (by kernel_rfl) (by kernel_rfl) (fun _ _ _ h => h) (by rfl) (fun W _ => run_move_is (.tmp 11) rfl rfl W) hHeld ?_
        simp only [Act.put, List.setIfInBounds_toArray, List.set_cons_zero, List.set_cons_succ]
        refine held_take (i := 17) (d := 78) (v := .int .i64 pl) rfl rfl (by kernel_rfl) (by kernel_rfl) (by kernel_rfl) (fun _ _ _ h => h) (by rfl) (fun W _ => run_move_is (.tmp 1) rfl rfl W) hHeld ?_
        simp only [Act.put, List.setIfInBounds_toArray, List.set_cons_zero, List.set_cons_succ]
        refine held_take (i := 18) (d := 79) (v := .agg #[.int .i64 qb, .int .i64 qo, .int .i64 qh]) rfl rfl (by kernel_rfl) (by kernel_rfl) (by kernel_rfl) (fun _ _ _ h => h) (by rfl) (fun W hS => by obtain ⟨g0, g1, g2⟩ := cells3 hS; go_simp) hHeld ?_
        simp only [Act.put, List.setIfInBounds_toArray, List.set_cons_zero, List.set_cons_succ]
        have HCL := Lib.hid (sub_nil v3 pl (Q3.mk qb qo qh))
        refine held_one (i := 19) (by kernel_rfl) ?_
        refine held_callX (d := 80) rfl rfl (by rfl) rfl (by kernel_rfl) Try.func17 (by kernel_rfl) HCL.out ?_
        rintro e v4 ⟨rfl, hb4⟩
        have HT4 := Lib.hid (HT3.out.go hb4)
        have HC4 : Hid (v4.heap[w.heap.size]? = some (.cells #[.int .i64 qb, .int .i64 qo, .int .i64 qh] 25 (0, 0))) := Lib.hid ((hb4.block _ (Array.getElem?_eq_some_iff.1 HC3.out).1).trans HC3.out)
        clear hb4
        refine ⟨_, rfl, ?_⟩
        clear HCL hHeld
        have hHeld := HC4.out
        refine ⟨hHeld, ?_⟩
        simp only [Act.put, List.setIfInBounds_toArray, List.set_cons_zero, List.set_cons_succ]
        refine held_take (i := 20) (d := 81) (v := .bool true) rfl rfl (by kernel_rfl) (by kernel_rfl) (by kernel_rfl) (fun _ _ _ h => h) (by rfl) (fun W _ => by go_simp) hHeld ?_
        simp only [Act.put, List.setIfInBounds_toArray, List.set_cons_zero, List.set_cons_succ]
        refine held_take (i := 21) (d := 82) (v := .bool true) rfl rfl (by kernel_rfl) (by kernel_rfl) (by kernel_rfl) (fun _ _ _ h => h) (by rfl) (fun W _ => by go_simp) hHeld ?_
        simp only [Act.put, List.setIfInBounds_toArray, List.set_cons_zero, List.set_cons_succ]
        refine held_take (i := 22) (d := 83) (v := .bool true) rfl rfl (by kernel_rfl) (by kernel_rfl) (by kernel_rfl) (fun _ _ _ h => h) (by rfl) (fun W _ => run_move_is (.tmp 82) rfl rfl W) hHeld ?_
        simp only [Act.put, List.setIfInBounds_toArray, List.set_cons_zero, List.set_cons_succ]
        refine held_take (i := 23) (d := 84) (v := .pointer none) rfl rfl (by kernel_rfl) (by kernel_rfl) (by kernel_rfl) (fun _ _ _ h => h) (by rfl) (fun W _ => run_move_is (.tmp 11) rfl rfl W) hHeld ?_
        simp only [Act.put, List.setIfInBounds_toArray, List.set_cons_zero, List.set_cons_succ]
        refine held_take (i := 24) (d := 85) (v := .int .i64 pl) rfl rfl (by kernel_rfl) (by kernel_rfl) (by kernel_rfl) (fun _ _ _ h => h) (by rfl) (fun W _ => run_move_is (.tmp 1) rfl rfl W) hHeld ?_
        simp only [Act.put, List.setIfInBounds_toArray, List.set_cons_zero, List.set_cons_succ]
        refine held_take (i := 26) (d := 87) (v := .agg #[.int .i64 0, .int .i64 0, .int .i64 0]) rfl rfl (by kernel_rfl) (by kernel_rfl) (by kernel_rfl) (fun _ _ _ h => h) (by rfl) (fun W _ => by go_simp) hHeld ?_
        simp only [Act.put, List.setIfInBounds_toArray, List.set_cons_zero, List.set_cons_succ]
        have HCL := Lib.hid (getQ_nil v4 pl)
        refine held_one (i := 25) (by kernel_rfl) ?_
        refine held_callX (d := 86) rfl rfl (by rfl) rfl (by kernel_rfl) Try.func10 (by kernel_rfl) HCL.out ?_
        rintro e v5 ⟨rfl, hb5⟩
        have HT5 := Lib.hid (HT4.out.go hb5)
        have HC5 : Hid (v5.heap[w.heap.size]? = some (.cells #[.int .i64 qb, .int .i64 qo, .int .i64 qh] 25 (0, 0))) := Lib.hid ((hb5.block _ (Array.getElem?_eq_some_iff.1 HC4.out).1).trans HC4.out)
        clear hb5
        refine ⟨_, rfl, ?_⟩
        clear HCL hHeld
        have hHeld := HC5.out
        refine ⟨hHeld, ?_⟩
        simp only [Act.put, List.setIfInBounds_toArray, List.set_cons_zero, List.set_cons_succ]
        refine held_take (i := 27) (d := 88) (v := .bool true) rfl rfl (by kernel_rfl) (by kernel_rfl) (by kernel_rfl) (fun _ _ _ h => h) (by rfl) (fun W _ => by have heq := eq_q3 0 0 0 0 0 0; unfold Q3.val Q3.nul; go_simp) hHeld ?_
        simp only [Act.put, List.setIfInBounds_toArray, List.set_cons_zero, List.set_cons_succ]
        refine held_take (i := 28) (d := 89) (v := .bool true) rfl rfl (by kernel_rfl) (by kernel_rfl) (by kernel_rfl) (fun _ _ _ h => h) (by rfl) (fun W _ => by go_simp) hHeld ?_
        simp only [Act.put, List.setIfInBounds_toArray, List.set_cons_zero, List.set_cons_succ]
        refine held_take (i := 29) (d := 90) (v := .bool true) rfl rfl (by kernel_rfl) (by kernel_rfl) (by kernel_rfl) (fun _ _ _ h => h) (by rfl) (fun W _ => run_move_is (.tmp 89) rfl rfl W) hHeld ?_
        simp only [Act.put, List.setIfInBounds_toArray, List.set_cons_zero, List.set_cons_succ]
        refine held_take (i := 30) (d := 91) (v := .pointer (some ⟨wv.heap.size, 0, none⟩)) rfl rfl (by kernel_rfl) (by kernel_rfl) (by kernel_rfl) (fun _ _ _ h => h) (by rfl) (fun W _ => run_move_is (.tmp 12) rfl rfl W) hHeld ?_
        simp only [Act.put, List.setIfInBounds_toArray, List.set_cons_zero, List.set_cons_succ]
        refine held_take (i := 31) (d := 92) (v := .int .i64 pl) rfl rfl (by kernel_rfl) (by kernel_rfl) (by kernel_rfl) (fun _ _ _ h => h) (by rfl) (fun W _ => run_move_is (.tmp 1) rfl rfl W) hHeld ?_
        simp only [Act.put, List.setIfInBounds_toArray, List.set_cons_zero, List.set_cons_succ]
        refine held_take (i := 32) (d := 93) (v := .agg #[.int .i64 qb, .int .i64 qo, .int .i64 qh]) rfl rfl (by kernel_rfl) (by kernel_rfl) (by kernel_rfl) (fun _ _ _ h => h) (by rfl) (fun W hS => by obtain ⟨g0, g1, g2⟩ := cells3 hS; go_simp) hHeld ?_
        simp only [Act.put, List.setIfInBounds_toArray, List.set_cons_zero, List.set_cons_succ]
        refine held_take (i := 34) (d := 95) (v := .pointer (some ⟨wv.heap.size + 1, 0, none⟩)) rfl rfl (by kernel_rfl) (by kernel_rfl) (by kernel_rfl) (fun _ _ _ h => h) (by rfl) (fun W _ => run_move_is (.tmp 13) rfl rfl W) hHeld ?_
        simp only [Act.put, List.setIfInBounds_toArray, List.set_cons_zero, List.set_cons_succ]
        refine held_take (i := 35) (d := 96) (v := .int .i64 pl) rfl rfl (by kernel_rfl) (by kernel_rfl) (by kernel_rfl) (fun _ _ _ h => h) (by rfl) (fun W _ => run_move_is (.tmp 1) rfl rfl W) hHeld ?_
        simp only [Act.put, List.setIfInBounds_toArray, List.set_cons_zero, List.set_cons_succ]
        refine held_take (i := 36) (d := 97) (v := .agg #[.int .i64 qb, .int .i64 qo, .int .i64 qh]) rfl rfl (by kernel_rfl) (by kernel_rfl) (by kernel_rfl) (fun _ _ _ h => h) (by rfl) (fun W hS => by obtain ⟨g0, g1, g2⟩ := cells3 hS; go_simp) hHeld ?_
        simp only [Act.put, List.setIfInBounds_toArray, List.set_cons_zero, List.set_cons_succ]
        have HCL := Lib.hid (HT5.out.addL' HNI.out HRP.out (by omega) HE.out)
        refine held_one (i := 33) (by kernel_rfl) ?_
        refine held_callX (d := 94) rfl rfl (by rfl) rfl (by kernel_rfl) Try.func15 (by kernel_rfl) HCL.out ?_
        rintro e v6 ⟨rfl, hT6⟩
        have HT6 := Lib.hid hT6
        have HC6 : Hid (v6.heap[w.heap.size]? = some (.cells #[.int .i64 qb, .int .i64 qo, .int .i64 qh] 25 (0, 0))) := Lib.hid ((hT6.below.block _ HQL.out).trans HQ0.out)
        clear hT6
        refine ⟨_, rfl, ?_⟩
        clear HCL hHeld
        have hHeld := HC6.out
        refine ⟨hHeld, ?_⟩
        simp only [Act.put, List.setIfInBounds_toArray, List.set_cons_zero, List.set_cons_succ]
        have HCL := Lib.hid (HT6.out.addR' (z := pl) HNI.out HQI.out (by omega) HE.out)
        refine held_one (i := 37) (by kernel_rfl) ?_
        refine held_callX (d := 98) rfl rfl (by rfl) rfl (by kernel_rfl) Try.func16 (by kernel_rfl) HCL.out ?_
        rintro e v7 ⟨rfl, hT7⟩
        have HT7 := Lib.hid hT7
        have HC7 : Hid (v7.heap[w.heap.size]? = some (.cells #[.int .i64 qb, .int .i64 qo, .int .i64 qh] 25 (0, 0))) := Lib.hid ((hT7.below.block _ HQL.out).trans HQ0.out)
        clear hT7
        refine ⟨_, rfl, ?_⟩
        clear HCL hHeld
        have hHeld := HC7.out
        refine ⟨hHeld, ?_⟩
        simp only [Act.put, List.setIfInBounds_toArray, List.set_cons_zero, List.set_cons_succ]
        refine held_take (i := 38) (d := 99) (v := .bool true) rfl rfl (by kernel_rfl) (by kernel_rfl) (by kernel_rfl) (fun _ _ _ h => h) (by rfl) (fun W _ => by go_simp) hHeld ?_
        simp only [Act.put, List.setIfInBounds_toArray, List.set_cons_zero, List.set_cons_succ]
        refine held_take (i := 39) (d := 100) (v := .bool true) rfl rfl (by kernel_rfl) (by kernel_rfl) (by kernel_rfl) (fun _ _ _ h => h) (by rfl) (fun W _ => by go_simp) hHeld ?_
        simp only [Act.put, List.setIfInBounds_toArray, List.set_cons_zero, List.set_cons_succ]
        refine held_take (i := 40) (d := 101) (v := .bool true) rfl rfl (by kernel_rfl) (by kernel_rfl) (by kernel_rfl) (fun _ _ _ h => h) (by rfl) (fun W _ => run_move_is (.tmp 100) rfl rfl W) hHeld ?_
        simp only [Act.put, List.setIfInBounds_toArray, List.set_cons_zero, List.set_cons_succ]
        refine held_take (i := 41) (d := 102) (v := .pointer (some ⟨wv.heap.size, 0, none⟩)) rfl rfl (by kernel_rfl) (by kernel_rfl) (by kernel_rfl) (fun _ _ _ h => h) (by rfl) (fun W _ => run_move_is (.tmp 12) rfl rfl W) hHeld ?_
        simp only [Act.put, List.setIfInBounds_toArray, List.set_cons_zero, List.set_cons_succ]
        refine held_take (i := 42) (d := 103) (v := .int .i64 pl) rfl rfl (by kernel_rfl) (by kernel_rfl) (by kernel_rfl) (fun _ _ _ h => h) (by rfl) (fun W _ => run_move_is (.tmp 1) rfl rfl W) hHeld ?_
        simp only [Act.put, List.setIfInBounds_toArray, List.set_cons_zero, List.set_cons_succ]
        refine held_take (i := 44) (d := 105) (v := .pointer (some ⟨wv.heap.size + 1, 0, none⟩)) rfl rfl (by kernel_rfl) (by kernel_rfl) (by kernel_rfl) (fun _ _ _ h => h) (by rfl) (fun W _ => run_move_is (.tmp 13) rfl rfl W) hHeld ?_
        simp only [Act.put, List.setIfInBounds_toArray, List.set_cons_zero, List.set_cons_succ]
        refine held_take (i := 45) (d := 106) (v := .int .i64 pl) rfl rfl (by kernel_rfl) (by kernel_rfl) (by kernel_rfl) (fun _ _ _ h => h) (by rfl) (fun W _ => run_move_is (.tmp 1) rfl rfl W) hHeld ?_
        simp only [Act.put, List.setIfInBounds_toArray, List.set_cons_zero, List.set_cons_succ]
        have HCL := Lib.hid (HT7.out.getL' HRP.out HY.out)
        refine held_one (i := 43) (by kernel_rfl) ?_
        refine held_callX (d := 104) rfl rfl (by rfl) rfl (by kernel_rfl) Try.func10 (by kernel_rfl) HCL.out ?_
        rintro e v8 ⟨rfl, hT8⟩
        have HT8 := Lib.hid hT8
        have HC8 : Hid (v8.heap[w.heap.size]? = some (.cells #[.int .i64 qb, .int .i64 qo, .int .i64 qh] 25 (0, 0))) := Lib.hid ((hT8.below.block _ HQL.out).trans HQ0.out)
        clear hT8
        refine ⟨_, rfl, ?_⟩
        clear HCL hHeld
        have hHeld := HC8.out
        refine ⟨hHeld, ?_⟩
        simp only [Act.put, List.setIfInBounds_toArray, List.set_cons_zero, List.set_cons_succ]
        have HCL := Lib.hid (HT8.out.getR' HY.out)
        refine held_one (i := 46) (by kernel_rfl) ?_
        refine held_callX (d := 107) rfl rfl (by rfl) rfl (by kernel_rfl) Try.func11 (by kernel_rfl) HCL.out ?_
        rintro e v9 ⟨rfl, hT9⟩
        have HT9 := Lib.hid hT9
        have HC9 : Hid (v9.heap[w.heap.size]? = some (.cells #[.int .i64 qb, .int .i64 qo, .int .i64 qh] 25 (0, 0))) := Lib.hid ((hT9.below.block _ HQL.out).trans HQ0.out)
        clear hT9
        refine ⟨_, rfl, ?_⟩
        clear HCL hHeld
        have hHeld := HC9.out
        refine ⟨hHeld, ?_⟩
        simp only [Act.put, List.setIfInBounds_toArray, List.set_cons_zero, List.set_cons_succ]
        refine held_take (i := 47) (d := 108) (v := .bool true) rfl rfl (by kernel_rfl) (by kernel_rfl) (by kernel_rfl) (fun _ _ _ h => h) (by rfl) (fun W _ => by have heq := eq_q3 yb yo yh yb yo yh; go_simp) hHeld ?_
        simp only [Act.put, List.setIfInBounds_toArray, List.set_cons_zero, List.set_cons_succ]
        refine held_take (i := 48) (d := 109) (v := .bool true) rfl rfl (by kernel_rfl) (by kernel_rfl) (by kernel_rfl) (fun _ _ _ h => h) (by rfl) (fun W _ => by go_simp) hHeld ?_
        simp only [Act.put, List.setIfInBounds_toArray, List.set_cons_zero, List.set_cons_succ]
        refine held_take (i := 49) (d := 6) (v := .bool true) rfl rfl (by kernel_rfl) (by kernel_rfl) (by kernel_rfl) (fun _ _ _ h => h) (by rfl) (fun W _ => by go_simp) hHeld ?_
        simp only [Act.put, List.setIfInBounds_toArray, List.set_cons_zero, List.set_cons_succ]
        refine wpAnyH_done (by kernel_rfl) ?_ _
        clear hHeld
        have HBF := Lib.hid (HB.out.trans ((HBV.out.trans (HT9.out.below.mono HBV.out.size)).mono HB.out.size))
        clear HT0 HC0 HT1 HC1 HT2 HC2 HT3 HC3 HT4 HC4 HT5 HC5 HT6 HC6 HT7 HC7 HT8 HC8 HT9 HC9
        go_wp2
        go_ret
        exact ⟨rfl, HBF.out⟩
    · have hi1 : ¬ (i : Int) < (len0 : Int) := by omega
      obtain ⟨f, hF, hT⟩ := hh.out
      have HBV := Lib.hid hT.below
      clear hh hF hT
      have hmz := Mtr.made wv (fun _ => 0) 1 Q3.nul
      have hbz : Below wv.heap.size wv (wv.alloc (.cells (mcs Q3.nul none) 47)) := (Below.refl _ _).alloc (Nat.le_refl _) _
      have htz := Ts.made hmz hbz
      unfold mcs Q3.nul at htz
      simp only at htz
      rw [show (wv.alloc (.cells #[.int .i64 0, .int .i64 0, .int .i64 0, .map none] 47)).heap.size = wv.heap.size + 1 by simp] at htz
      have HTZ := Lib.hid htz
      have hq3 := (HBV.out.block _ (Array.getElem?_eq_some_iff.1 HQ.out).1).trans HQ.out
      have HQ0 := Lib.hid hq3
      have HQL := Lib.hid (Array.getElem?_eq_some_iff.1 hq3).1
      have hqz : ((wv.alloc (.cells #[.int .i64 0, .int .i64 0, .int .i64 0, .map none] 47)).alloc (.cells #[.int .i64 0, .int .i64 0, .int .i64 0, .slice none 0 0] 31)).heap[w.heap.size]? = some (.cells #[.int .i64 qb, .int .i64 qo, .int .i64 qh] 25 (0, 0)) := by
        have hl := HQL.out
        rw [Below.heap_alloc _ _ _ (by simp; omega), Below.heap_alloc _ _ _ hl]
        exact hq3
      have HQZ := Lib.hid hqz
      have HNI : Hid (Q3.In ⟨0, 0, 0⟩) := Lib.hid (by simp [Q3.In])
      obtain ⟨E, hE⟩ : ∃ E, fitE ⟨0, 0, 0⟩ ((fun _ => Q3.mk 0 0 0) pl) ⟨qb, qo, qh⟩ = E := ⟨_, rfl⟩
      have HE := Lib.hid hE
      obtain ⟨⟨yb, yo, yh⟩, hy⟩ : ∃ x, addF ⟨0, 0, 0⟩ pl ⟨qb, qo, qh⟩ (fun _ => Q3.mk 0 0 0) pl = x := ⟨_, rfl⟩
      have HY := Lib.hid hy
      have HRN := Lib.hid (reset_nil wv pl)
      clear hmz hbz htz hq3 hqz hE hy
      go_wp2_with fail
      refine HRN.out.mono ?_
      rintro e wn ⟨rfl, rfl⟩
      clear HRN
      go_wp2_with fail
      generalize (wv.alloc (.cells #[.int .i64 0, .int .i64 0, .int .i64 0, .map none] 47)).alloc (.cells #[.int .i64 0, .int .i64 0, .int .i64 0, .slice none 0 0] 31) = wz at *
      have HT0 := Lib.hid (HTZ.out.go (below_drewN (Below.refl wz.heap.size wz) 1))
      have HC0 : Hid (wz.drew.heap[w.heap.size]? = some (.cells #[.int .i64 qb, .int .i64 qo, .int .i64 qh] 25 (0, 0))) := HQZ
      refine wp_region_hand 50 (fun W => W.heap[w.heap.size]? = some (.cells #[.int .i64 qb, .int .i64 qo, .int .i64 qh] 25 (0, 0))) (by kernel_rfl) (by kernel_rfl) ?_
      rw [show Array.replicate 50 false = #[false, false, false, false, false, false, false, false, false, false, false, false, false, false, false, false, false, false, false, false, false, false, false, false, false, false, false, false, false, false, false, false, false, false, false, false, false, false, false, false, false, false, false, false, false, false, false, false, false, false] from rfl]
      have hHeld := HC0.out
      have HCL := Lib.hid (awake15_any wz.drew)
      refine held_one (i := 0) (by kernel_rfl) ?_
      refine held_callX (d := 61) rfl rfl (by rfl) rfl (by kernel_rfl) Try.func12 (by kernel_rfl) HCL.out ?_
      rintro e v1 ⟨rfl, hb1⟩
      have HT1 := Lib.hid (HT0.out.go hb1)
      have HC1 : Hid (v1.heap[w.heap.size]? = some (.cells #[.int .i64 qb, .int .i64 qo, .int .i64 qh] 25 (0, 0))) := Lib.hid ((hb1.block _ (Array.getElem?_eq_some_iff.1 HC0.out).1).trans HC0.out)
      clear hb1
      refine ⟨_, rfl, ?_⟩
      clear HCL hHeld
      have hHeld := HC1.out
      refine ⟨hHeld, ?_⟩
      simp only [Act.put, List.setIfInBounds_toArray, List.set_cons_zero, List.set_cons_succ]
      refine held_take (i := 1) (d := 62) (v := .bool true) rfl rfl (by kernel_rfl) (by kernel_rfl) (by kernel_rfl) (fun _ _ _ h => h) (by rfl) (fun W _ => run_move_is (.tmp 61) rfl rfl W) hHeld ?_
      simp only [Act.put, List.setIfInBounds_toArray, List.set_cons_zero, List.set_cons_succ]
      refine held_take (i := 2) (d := 63) (v := .pointer none) rfl rfl (by kernel_rfl) (by kernel_rfl) (by kernel_rfl) (fun _ _ _ h => h) (by rfl) (fun W _ => run_move_is (.tmp 11) rfl rfl W) hHeld ?_
      simp only [Act.put, List.setIfInBounds_toArray, List.set_cons_zero, List.set_cons_succ]
      refine held_take (i := 3) (d := 64) (v := .int .i64 pl) rfl rfl (by kernel_rfl) (by kernel_rfl) (by kernel_rfl) (fun _ _ _ h => h) (by rfl) (fun W _ => run_move_is (.tmp 1) rfl rfl W) hHeld ?_
      simp only [Act.put, List.setIfInBounds_toArray, List.set_cons_zero, List.set_cons_succ]
      refine held_take (i := 4) (d := 65) (v := .agg #[.int .i64 qb, .int .i64 qo, .int .i64 qh]) rfl rfl (by kernel_rfl) (by kernel_rfl) (by kernel_rfl) (fun _ _ _ h => h) (by rfl) (fun W hS => by obtain ⟨g0, g1, g2⟩ := cells3 hS; go_simp) hHeld ?_
      simp only [Act.put, List.setIfInBounds_toArray, List.set_cons_zero, List.set_cons_succ]
      have HCL := Lib.hid (add_nil v1 pl (Q3.mk qb qo qh))
      refine held_one (i := 5) (by kernel_rfl) ?_
      refine held_callX (d := 66) rfl rfl (by rfl) rfl (by kernel_rfl) Try.func15 (by kernel_rfl) HCL.out ?_
      rintro e v2 ⟨rfl, hb2⟩
      have HT2 := Lib.hid (HT1.out.go hb2)
      have HC2 : Hid (v2.heap[w.heap.size]? = some (.cells #[.int .i64 qb, .int .i64 qo, .int .i64 qh] 25 (0, 0))) := Lib.hid ((hb2.block _ (Array.getElem?_eq_some_iff.1 HC1.out).1).trans HC1.out)
      clear hb2
      refine ⟨_, rfl, ?_⟩
      clear HCL hHeld
      have hHeld := HC2.out
      refine ⟨hHeld, ?_⟩
      simp only [Act.put, List.setIfInBounds_toArray, List.set_cons_zero, List.set_cons_succ]
      refine held_take (i := 6) (d := 67) (v := .bool true) rfl rfl (by kernel_rfl) (by kernel_rfl) (by kernel_rfl) (fun _ _ _ h => h) (by rfl) (fun W _ => by go_simp) hHeld ?_
      simp only [Act.put, List.setIfInBounds_toArray, List.set_cons_zero, List.set_cons_succ]
      refine held_take (i := 7) (d := 68) (v := .bool true) rfl rfl (by kernel_rfl) (by kernel_rfl) (by kernel_rfl) (fun _ _ _ h => h) (by rfl) (fun W _ => by go_simp) hHeld ?_
      simp only [Act.put, List.setIfInBounds_toArray, List.set_cons_zero, List.set_cons_succ]
      refine held_take (i := 8) (d := 69) (v := .bool true) rfl rfl (by kernel_rfl) (by kernel_rfl) (by kernel_rfl) (fun _ _ _ h => h) (by rfl) (fun W _ => run_move_is (.tmp 68) rfl rfl W) hHeld ?_
      simp only [Act.put, List.setIfInBounds_toArray, List.set_cons_zero, List.set_cons_succ]
      refine held_take (i := 9) (d := 70) (v := .pointer none) rfl rfl (by kernel_rfl) (by kernel_rfl) (by kernel_rfl) (fun _ _ _ h => h) (by rfl) (fun W _ => run_move_is (.tmp 11) rfl rfl W) hHeld ?_
      simp only [Act.put, List.setIfInBounds_toArray, List.set_cons_zero, List.set_cons_succ]
      refine held_take (i := 10) (d := 71) (v := .int .i64 pl) rfl rfl (by kernel_rfl) (by kernel_rfl) (by kernel_rfl) (fun _ _ _ h => h) (by rfl) (fun W _ => run_move_is (.tmp 1) rfl rfl W) hHeld ?_
      simp only [Act.put, List.setIfInBounds_toArray, List.set_cons_zero, List.set_cons_succ]
      refine held_take (i := 11) (d := 72) (v := .agg #[.int .i64 qb, .int .i64 qo, .int .i64 qh]) rfl rfl (by kernel_rfl) (by kernel_rfl) (by kernel_rfl) (fun _ _ _ h => h) (by rfl) (fun W hS => by obtain ⟨g0, g1, g2⟩ := cells3 hS; go_simp) hHeld ?_
      simp only [Act.put, List.setIfInBounds_toArray, List.set_cons_zero, List.set_cons_succ]
      have HCL := Lib.hid (fits_nil v2 pl (Q3.mk qb qo qh))
      refine held_one (i := 12) (by kernel_rfl) ?_
      refine held_callX (d := 73) rfl rfl (by rfl) rfl (by kernel_rfl) Try.func13 (by kernel_rfl) HCL.out ?_
      rintro e v3 ⟨rfl, hb3⟩
      have HT3 := Lib.hid (HT2.out.go hb3)
      have HC3 : Hid (v3.heap[w.heap.size]? = some (.cells #[.int .i64 qb, .int .i64 qo, .int .i64 qh] 25 (0, 0))) := Lib.hid ((hb3.block _ (Array.getElem?_eq_some_iff.1 HC2.out).1).trans HC2.out)
      clear hb3
      refine ⟨_, rfl, ?_⟩
      clear HCL hHeld
      have hHeld := HC3.out
      refine ⟨hHeld, ?_⟩
      simp only [Act.put, List.setIfInBounds_toArray, List.set_cons_zero, List.set_cons_succ]
      refine held_take (i := 13) (d := 74) (v := .bool true) rfl rfl (by kernel_rfl) (by kernel_rfl) (by kernel_rfl) (fun _ _ _ h => h) (by rfl) (fun W _ => by go_simp) hHeld ?_
      simp only [Act.put, List.setIfInBounds_toArray, List.set_cons_zero, List.set_cons_succ]
      refine held_take (i := 14) (d := 75) (v := .bool true) rfl rfl (by kernel_rfl) (by kernel_rfl) (by kernel_rfl) (fun _ _ _ h => h) (by rfl) (fun W _ => by go_simp) hHeld ?_
      simp only [Act.put, List.setIfInBounds_toArray, List.set_cons_zero, List.set_cons_succ]
      refine held_take (i := 15) (d := 76) (v := .bool true) rfl rfl (by kernel_rfl) (by kernel_rfl) (by kernel_rfl) (fun _ _ _ h => h) (by rfl) (fun W _ => run_move_is (.tmp 75) rfl rfl W) hHeld ?_
      simp only [Act.put, List.setIfInBounds_toArray, List.set_cons_zero, List.set_cons_succ]
      refine held_take (i := 16) (d := 77) (v := .pointer none) rfl rfl (by kernel_rfl) (by kernel_rfl) (by kernel_rfl) (fun _ _ _ h => h) (by rfl) (fun W _ => run_move_is (.tmp 11) rfl rfl W) hHeld ?_
      simp only [Act.put, List.setIfInBounds_toArray, List.set_cons_zero, List.set_cons_succ]
      refine held_take (i := 17) (d := 78) (v := .int .i64 pl) rfl rfl (by kernel_rfl) (by kernel_rfl) (by kernel_rfl) (fun _ _ _ h => h) (by rfl) (fun W _ => run_move_is (.tmp 1) rfl rfl W) hHeld ?_
      simp only [Act.put, List.setIfInBounds_toArray, List.set_cons_zero, List.set_cons_succ]
      refine held_take (i := 18) (d := 79) (v := .agg #[.int .i64 qb, .int .i64 qo, .int .i64 qh]) rfl rfl (by kernel_rfl) (by kernel_rfl) (by kernel_rfl) (fun _ _ _ h => h) (by rfl) (fun W hS => by obtain ⟨g0, g1, g2⟩ := cells3 hS; go_simp) hHeld ?_
      simp only [Act.put, List.setIfInBounds_toArray, List.set_cons_zero, List.set_cons_succ]
      have HCL := Lib.hid (sub_nil v3 pl (Q3.mk qb qo qh))
      refine held_one (i := 19) (by kernel_rfl) ?_
      refine held_callX (d := 80) rfl rfl (by rfl) rfl (by kernel_rfl) Try.func17 (by kernel_rfl) HCL.out ?_
      rintro e v4 ⟨rfl, hb4⟩
      have HT4 := Lib.hid (HT3.out.go hb4)
      have HC4 : Hid (v4.heap[w.heap.size]? = some (.cells #[.int .i64 qb, .int .i64 qo, .int .i64 qh] 25 (0, 0))) := Lib.hid ((hb4.block _ (Array.getElem?_eq_some_iff.1 HC3.out).1).trans HC3.out)
      clear hb4
      refine ⟨_, rfl, ?_⟩
      clear HCL hHeld
      have hHeld := HC4.out
      refine ⟨hHeld, ?_⟩
      simp only [Act.put, List.setIfInBounds_toArray, List.set_cons_zero, List.set_cons_succ]
      refine held_take (i := 20) (d := 81) (v := .bool true) rfl rfl (by kernel_rfl) (by kernel_rfl) (by kernel_rfl) (fun _ _ _ h => h) (by rfl) (fun W _ => by go_simp) hHeld ?_
      simp only [Act.put, List.setIfInBounds_toArray, List.set_cons_zero, List.set_cons_succ]
      refine held_take (i := 21) (d := 82) (v := .bool true) rfl rfl (by kernel_rfl) (by kernel_rfl) (by kernel_rfl) (fun _ _ _ h => h) (by rfl) (fun W _ => by go_simp) hHeld ?_
      simp only [Act.put, List.setIfInBounds_toArray, List.set_cons_zero, List.set_cons_succ]
      refine held_take (i := 22) (d := 83) (v := .bool true) rfl rfl (by kernel_rfl) (by kernel_rfl) (by kernel_rfl) (fun _ _ _ h => h) (by rfl) (fun W _ => run_move_is (.tmp 82) rfl rfl W) hHeld ?_
      simp only [Act.put, List.setIfInBounds_toArray, List.set_cons_zero, List.set_cons_succ]
      refine held_take (i := 23) (d := 84) (v := .pointer none) rfl rfl (by kernel_rfl) (by kernel_rfl) (by kernel_rfl) (fun _ _ _ h => h) (by rfl) (fun W _ => run_move_is (.tmp 11) rfl rfl W) hHeld ?_
      simp only [Act.put, List.setIfInBounds_toArray, List.set_cons_zero, List.set_cons_succ]
      refine held_take (i := 24) (d := 85) (v := .int .i64 pl) rfl rfl (by kernel_rfl) (by kernel_rfl) (by kernel_rfl) (fun _ _ _ h => h) (by rfl) (fun W _ => run_move_is (.tmp 1) rfl rfl W) hHeld ?_
      simp only [Act.put, List.setIfInBounds_toArray, List.set_cons_zero, List.set_cons_succ]
      refine held_take (i := 26) (d := 87) (v := .agg #[.int .i64 0, .int .i64 0, .int .i64 0]) rfl rfl (by kernel_rfl) (by kernel_rfl) (by kernel_rfl) (fun _ _ _ h => h) (by rfl) (fun W _ => by go_simp) hHeld ?_
      simp only [Act.put, List.setIfInBounds_toArray, List.set_cons_zero, List.set_cons_succ]
      have HCL := Lib.hid (getQ_nil v4 pl)
      refine held_one (i := 25) (by kernel_rfl) ?_
      refine held_callX (d := 86) rfl rfl (by rfl) rfl (by kernel_rfl) Try.func10 (by kernel_rfl) HCL.out ?_
      rintro e v5 ⟨rfl, hb5⟩
      have HT5 := Lib.hid (HT4.out.go hb5)
      have HC5 : Hid (v5.heap[w.heap.size]? = some (.cells #[.int .i64 qb, .int .i64 qo, .int .i64 qh] 25 (0, 0))) := Lib.hid ((hb5.block _ (Array.getElem?_eq_some_iff.1 HC4.out).1).trans HC4.out)
      clear hb5
      refine ⟨_, rfl, ?_⟩
      clear HCL hHeld
      have hHeld := HC5.out
      refine ⟨hHeld, ?_⟩
      simp only [Act.put, List.setIfInBounds_toArray, List.set_cons_zero, List.set_cons_succ]
      refine held_take (i := 27) (d := 88) (v := .bool true) rfl rfl (by kernel_rfl) (by kernel_rfl) (by kernel_rfl) (fun _ _ _ h => h) (by rfl) (fun W _ => by have heq := eq_q3 0 0 0 0 0 0; unfold Q3.val Q3.nul; go_simp) hHeld ?_
      simp only [Act.put, List.setIfInBounds_toArray, List.set_cons_zero, List.set_cons_succ]
      refine held_take (i := 28) (d := 89) (v := .bool true) rfl rfl (by kernel_rfl) (by kernel_rfl) (by kernel_rfl) (fun _ _ _ h => h) (by rfl) (fun W _ => by go_simp) hHeld ?_
      simp only [Act.put, List.setIfInBounds_toArray, List.set_cons_zero, List.set_cons_succ]
      refine held_take (i := 29) (d := 90) (v := .bool true) rfl rfl (by kernel_rfl) (by kernel_rfl) (by kernel_rfl) (fun _ _ _ h => h) (by rfl) (fun W _ => run_move_is (.tmp 89) rfl rfl W) hHeld ?_
      simp only [Act.put, List.setIfInBounds_toArray, List.set_cons_zero, List.set_cons_succ]
      refine held_take (i := 30) (d := 91) (v := .pointer (some ⟨wv.heap.size, 0, none⟩)) rfl rfl (by kernel_rfl) (by kernel_rfl) (by kernel_rfl) (fun _ _ _ h => h) (by rfl) (fun W _ => run_move_is (.tmp 12) rfl rfl W) hHeld ?_
      simp only [Act.put, List.setIfInBounds_toArray, List.set_cons_zero, List.set_cons_succ]
      refine held_take (i := 31) (d := 92) (v := .int .i64 pl) rfl rfl (by kernel_rfl) (by kernel_rfl) (by kernel_rfl) (fun _ _ _ h => h) (by rfl) (fun W _ => run_move_is (.tmp 1) rfl rfl W) hHeld ?_
      simp only [Act.put, List.setIfInBounds_toArray, List.set_cons_zero, List.set_cons_succ]
      refine held_take (i := 32) (d := 93) (v := .agg #[.int .i64 qb, .int .i64 qo, .int .i64 qh]) rfl rfl (by kernel_rfl) (by kernel_rfl) (by kernel_rfl) (fun _ _ _ h => h) (by rfl) (fun W hS => by obtain ⟨g0, g1, g2⟩ := cells3 hS; go_simp) hHeld ?_
      simp only [Act.put, List.setIfInBounds_toArray, List.set_cons_zero, List.set_cons_succ]
      refine held_take (i := 34) (d := 95) (v := .pointer (some ⟨wv.heap.size + 1, 0, none⟩)) rfl rfl (by kernel_rfl) (by kernel_rfl) (by kernel_rfl) (fun _ _ _ h => h) (by rfl) (fun W _ => run_move_is (.tmp 13) rfl rfl W) hHeld ?_
      simp only [Act.put, List.setIfInBounds_toArray, List.set_cons_zero, List.set_cons_succ]
      refine held_take (i := 35) (d := 96) (v := .int .i64 pl) rfl rfl (by kernel_rfl) (by kernel_rfl) (by kernel_rfl) (fun _ _ _ h => h) (by rfl) (fun W _ => run_move_is (.tmp 1) rfl rfl W) hHeld ?_
      simp only [Act.put, List.setIfInBounds_toArray, List.set_cons_zero, List.set_cons_succ]
      refine held_take (i := 36) (d := 97) (v := .agg #[.int .i64 qb, .int .i64 qo, .int .i64 qh]) rfl rfl (by kernel_rfl) (by kernel_rfl) (by kernel_rfl) (fun _ _ _ h => h) (by rfl) (fun W hS => by obtain ⟨g0, g1, g2⟩ := cells3 hS; go_simp) hHeld ?_
      simp only [Act.put, List.setIfInBounds_toArray, List.set_cons_zero, List.set_cons_succ]
      have HCL := Lib.hid (HT5.out.addL' HNI.out HRP.out (by omega) HE.out)
      refine held_one (i := 33) (by kernel_rfl) ?_
      refine held_callX (d := 94) rfl rfl (by rfl) rfl (by kernel_rfl) Try.func15 (by kernel_rfl) HCL.out ?_
      rintro e v6 ⟨rfl, hT6⟩
      have HT6 := Lib.hid hT6
      have HC6 : Hid (v6.heap[w.heap.size]? = some (.cells #[.int .i64 qb, .int .i64 qo, .int .i64 qh] 25 (0, 0))) := Lib.hid ((hT6.below.block _ HQL.out).trans HQ0.out)
      clear hT6
      refine ⟨_, rfl, ?_⟩
      clear HCL hHeld
      have hHeld := HC6.out
      refine ⟨hHeld, ?_⟩
      simp only [Act.put, List.setIfInBounds_toArray, List.set_cons_zero, List.set_cons_succ]
      have HCL := Lib.hid (HT6.out.addR' (z := pl) HNI.out HQI.out (by omega) HE.out)
      refine held_one (i := 37) (by kernel_rfl) ?_
      refine held_callX (d := 98) rfl rfl (by rfl) rfl (by kernel_rfl) Try.func16 (by kernel_rfl) HCL.out ?_
      rintro e v7 ⟨rfl, hT7⟩
      have HT7 := Lib.hid hT7
      have HC7 : Hid (v7.heap[w.heap.size]? = some (.cells #[.int .i64 qb, .int .i64 qo, .int .i64 qh] 25 (0, 0))) := Lib.hid ((hT7.below.block _ HQL.out).trans HQ0.out)
      clear hT7
      refine ⟨_, rfl, ?_⟩
      clear HCL hHeld
      have hHeld := HC7.out
      refine ⟨hHeld, ?_⟩
      simp only [Act.put, List.setIfInBounds_toArray, List.set_cons_zero, List.set_cons_succ]
      refine held_take (i := 38) (d := 99) (v := .bool true) rfl rfl (by kernel_rfl) (by kernel_rfl) (by kernel_rfl) (fun _ _ _ h => h) (by rfl) (fun W _ => by go_simp) hHeld ?_
      simp only [Act.put, List.setIfInBounds_toArray, List.set_cons_zero, List.set_cons_succ]
      refine held_take (i := 39) (d := 100) (v := .bool true) rfl rfl (by kernel_rfl) (by kernel_rfl) (by kernel_rfl) (fun _ _ _ h => h) (by rfl) (fun W _ => by go_simp) hHeld ?_
      simp only [Act.put, List.setIfInBounds_toArray, List.set_cons_zero, List.set_cons_succ]
      refine held_take (i := 40) (d := 101) (v := .bool true) rfl rfl (by kernel_rfl) (by kernel_rfl) (by kernel_rfl) (fun _ _ _ h => h) (by rfl) (fun W _ => run_move_is (.tmp 100) rfl rfl W) hHeld ?_
      simp only [Act.put, List.setIfInBounds_toArray, List.set_cons_zero, List.set_cons_succ]
      refine held_take (i := 41) (d := 102) (v := .pointer (some ⟨wv.heap.size, 0, none⟩)) rfl rfl (by kernel_rfl) (by kernel_rfl) (by kernel_rfl) (fun _ _ _ h => h) (by rfl) (fun W _ => run_move_is (.tmp 12) rfl rfl W) hHeld ?_
      simp only [Act.put, List.setIfInBounds_toArray, List.set_cons_zero, List.set_cons_succ]
      refine held_take (i := 42) (d := 103) (v := .int .i64 pl) rfl rfl (by kernel_rfl) (by kernel_rfl) (by kernel_rfl) (fun _ _ _ h => h) (by rfl) (fun W _ => run_move_is (.tmp 1) rfl rfl W) hHeld ?_
      simp only [Act.put, List.setIfInBounds_toArray, List.set_cons_zero, List.set_cons_succ]
      refine held_take (i := 44) (d := 105) (v := .pointer (some ⟨wv.heap.size + 1, 0, none⟩)) rfl rfl (by kernel_rfl) (by kernel_rfl) (by kernel_rfl) (fun _ _ _ h => h) (by rfl) (fun W _ => run_move_is (.tmp 13) rfl rfl W) hHeld ?_
      simp only [Act.put, List.setIfInBounds_toArray, List.set_cons_zero, List.set_cons_succ]
      refine held_take (i := 45) (d := 106) (v := .int .i64 pl) rfl rfl (by kernel_rfl) (by kernel_rfl) (by kernel_rfl) (fun _ _ _ h => h) (by rfl) (fun W _ => run_move_is (.tmp 1) rfl rfl W) hHeld ?_
      simp only [Act.put, List.setIfInBounds_toArray, List.set_cons_zero, List.set_cons_succ]
      have HCL := Lib.hid (HT7.out.getL' HRP.out HY.out)
      refine held_one (i := 43) (by kernel_rfl) ?_
      refine held_callX (d := 104) rfl rfl (by rfl) rfl (by kernel_rfl) Try.func10 (by kernel_rfl) HCL.out ?_
      rintro e v8 ⟨rfl, hT8⟩
      have HT8 := Lib.hid hT8
      have HC8 : Hid (v8.heap[w.heap.size]? = some (.cells #[.int .i64 qb, .int .i64 qo, .int .i64 qh] 25 (0, 0))) := Lib.hid ((hT8.below.block _ HQL.out).trans HQ0.out)
      clear hT8
      refine ⟨_, rfl, ?_⟩
      clear HCL hHeld
      have hHeld := HC8.out
      refine ⟨hHeld, ?_⟩
      simp only [Act.put, List.setIfInBounds_toArray, List.set_cons_zero, List.set_cons_succ]
      have HCL := Lib.hid (HT8.out.getR' HY.out)
      refine held_one (i := 46) (by kernel_rfl) ?_
      refine held_callX (d := 107) rfl rfl (by rfl) rfl (by kernel_rfl) Try.func11 (by kernel_rfl) HCL.out ?_
      rintro e v9 ⟨rfl, hT9⟩
      have HT9 := Lib.hid hT9
      have HC9 : Hid (v9.heap[w.heap.size]? = some (.cells #[.int .i64 qb, .int .i64 qo, .int .i64 qh] 25 (0, 0))) := Lib.hid ((hT9.below.block _ HQL.out).trans HQ0.out)
      clear hT9
      refine ⟨_, rfl, ?_⟩
      clear HCL hHeld
      have hHeld := HC9.out
      refine ⟨hHeld, ?_⟩
      simp only [Act.put, List.setIfInBounds_toArray, List.set_cons_zero, List.set_cons_succ]
      refine held_take (i := 47) (d := 108) (v := .bool true) rfl rfl (by kernel_rfl) (by kernel_rfl) (by kernel_rfl) (fun _ _ _ h => h) (by rfl) (fun W _ => by have heq := eq_q3 yb yo yh yb yo yh; go_simp) hHeld ?_
      simp only [Act.put, List.setIfInBounds_toArray, List.set_cons_zero, List.set_cons_succ]
      refine held_take (i := 48) (d := 109) (v := .bool true) rfl rfl (by kernel_rfl) (by kernel_rfl) (by kernel_rfl) (fun _ _ _ h => h) (by rfl) (fun W _ => by go_simp) hHeld ?_
      simp only [Act.put, List.setIfInBounds_toArray, List.set_cons_zero, List.set_cons_succ]
      refine held_take (i := 49) (d := 6) (v := .bool true) rfl rfl (by kernel_rfl) (by kernel_rfl) (by kernel_rfl) (fun _ _ _ h => h) (by rfl) (fun W _ => by go_simp) hHeld ?_
      simp only [Act.put, List.setIfInBounds_toArray, List.set_cons_zero, List.set_cons_succ]
      refine wpAnyH_done (by kernel_rfl) ?_ _
      clear hHeld
      have HBF := Lib.hid (HB.out.trans ((HBV.out.trans (HT9.out.below.mono HBV.out.size)).mono HB.out.size))
      clear HT0 HC0 HT1 HC1 HT2 HC2 HT3 HC3 HT4 HC4 HT5 HC5 HT6 HC6 HT7 HC7 HT8 HC8 HT9 HC9
      go_wp2
      go_ret
      exact ⟨rfl, HBF.out⟩
end Go.Proofs.Ytfhpdjlppblkcaa
