/-
  The law EventEncode as a walk: called with any arguments of its types it returns true. No conditions.
-/
import Derived.Test.YtfhcpgcjahjnmaaEbaLaw
namespace Go.Proofs.Ytfhcpgcjahjnmaa
open Go.ChangeShapes Go.WideShapes Go.ChangeAt Go.RowKit
set_option linter.unusedVariables false
set_option linter.unusedSimpArgs false
set_option maxHeartbeats 4000000
set_option maxRecDepth 100000

/-- Event j of a block of three. -/
def Evs (sb : Nat) (W : World) (j : Nat) (p o h a e : Int) : Prop :=
  W.cell? ⟨sb, j * 5, none⟩ = some (.int .i64 p) ∧ W.cell? ⟨sb, j * 5 + 1, none⟩ = some (.int .i64 o) ∧ W.cell? ⟨sb, j * 5 + 2, none⟩ = some (.int .u64 h) ∧ W.cell? ⟨sb, j * 5 + 3, none⟩ = some (.int .u64 a) ∧ W.cell? ⟨sb, j * 5 + 4, none⟩ = some (.int .i64 e)
theorem evs_all {sb : Nat} {W : World} {p0 o0 h0 a0 e0 p1 o1 h1 a1 e1 p2 o2 h2 a2 e2 : Int} {t : TypeId}
    (hc : W.heap[sb]? = some (.cells #[.int .i64 p0, .int .i64 o0, .int .u64 h0, .int .u64 a0, .int .i64 e0, .int .i64 p1, .int .i64 o1, .int .u64 h1, .int .u64 a1, .int .i64 e1, .int .i64 p2, .int .i64 o2, .int .u64 h2, .int .u64 a2, .int .i64 e2] t (0, 0)))
    (b0 : (0 ≤ h0 ∧ h0 < 18446744073709551616) ∧ 0 ≤ a0 ∧ a0 < 18446744073709551616) (b1 : (0 ≤ h1 ∧ h1 < 18446744073709551616) ∧ 0 ≤ a1 ∧ a1 < 18446744073709551616) (b2 : (0 ≤ h2 ∧ h2 < 18446744073709551616) ∧ 0 ≤ a2 ∧ a2 < 18446744073709551616) {j : Nat} (hj : j < 3) :
    ∃ p o h a e, (0 ≤ h ∧ h < 18446744073709551616) ∧ (0 ≤ a ∧ a < 18446744073709551616) ∧ ∀ W', Below W.heap.size W W' → Evs sb W' j p o h a e := by
  have hl := (Array.getElem?_eq_some_iff.1 hc).1
  have hW : ∀ W', Below W.heap.size W W' → W'.heap[sb]? = _ := fun W' hb => (hb.block sb hl).trans hc
  obtain rfl | rfl | rfl : j = 0 ∨ j = 1 ∨ j = 2 := by omega
  · exact ⟨p0, o0, h0, a0, e0, b0.1, b0.2, fun W' hb => ⟨cell_of_row W' sb 0 _ _ _ (hW W' hb), cell_of_row W' sb 1 _ _ _ (hW W' hb), cell_of_row W' sb 2 _ _ _ (hW W' hb), cell_of_row W' sb 3 _ _ _ (hW W' hb), cell_of_row W' sb 4 _ _ _ (hW W' hb)⟩⟩
  · exact ⟨p1, o1, h1, a1, e1, b1.1, b1.2, fun W' hb => ⟨cell_of_row W' sb 5 _ _ _ (hW W' hb), cell_of_row W' sb 6 _ _ _ (hW W' hb), cell_of_row W' sb 7 _ _ _ (hW W' hb), cell_of_row W' sb 8 _ _ _ (hW W' hb), cell_of_row W' sb 9 _ _ _ (hW W' hb)⟩⟩
  · exact ⟨p2, o2, h2, a2, e2, b2.1, b2.2, fun W' hb => ⟨cell_of_row W' sb 10 _ _ _ (hW W' hb), cell_of_row W' sb 11 _ _ _ (hW W' hb), cell_of_row W' sb 12 _ _ _ (hW W' hb), cell_of_row W' sb 13 _ _ _ (hW W' hb), cell_of_row W' sb 14 _ _ _ (hW W' hb)⟩⟩
theorem eventEncode_walk (x00 x01 x02 x03 x04 : Int) (b1 : Option Addr) (len1 cap1 : Nat) (z1 : List Int) (a2 a3 a4 : Int) (w : World) (w0 : EvW x00 x01 x02 x03 x04) (w1 : IsRow .u16 w b1 len1 cap1 z1) (w2 : (Lit.int .u8 a2).wf = true) (w3 : (Lit.int .u8 a3).wf = true) (w4 : (Lit.int .u8 a4).wf = true) :
    Calls Try.prog 3 #[.agg #[.int .i64 x00, .int .i64 x01, .int .u64 x02, .int .u64 x03, .int .i64 x04], .slice b1 len1 cap1, .int .u8 a2, .int .u8 a3, .int .u8 a4] w fun e w' => e = .returned (.bool true) ∧ Below w.heap.size w w' := by
  obtain ⟨hrow, hfit⟩ := w1.row
  generalize z1.take len1 = L at hrow hfit
  have hb0 : Below w.heap.size w (w.alloc (.cells #[.int .i64 x00, .int .i64 x01, .int .u64 x02, .int .u64 x03, .int .i64 x04] 26)) := (Below.refl _ _).alloc (Nat.le_refl _) _
  have HB0 := Lib.hid hb0
  have HX0 := Lib.hid (EvB.new (w := w) (p := x00) (o := x01) (h := x02) (a := x03) (e := x04))
  have HOF := Lib.hid (of_any b1 len1 cap1 L 12 (w.alloc (.cells #[.int .i64 x00, .int .i64 x01, .int .u64 x02, .int .u64 x03, .int .i64 x04] 26)) ((hrow.below hb0).more hb0.size) (by omega))
  have HFT := Lib.hid (hfit.take 12)
  have HRB : Hid ((0 ≤ x02 ∧ x02 < 18446744073709551616) ∧ 0 ≤ x03 ∧ x03 < 18446744073709551616) := Lib.hid ⟨w0.2.2.1, w0.2.2.2.1⟩
  generalize L.take 12 = T at *
  obtain ⟨b20, b21⟩ := byte_bd w2
  obtain ⟨b30, b31⟩ := byte_bd w3
  obtain ⟨b40, b41⟩ := byte_bd w4
  have s0 : 0 ≤ a3 % 67 := Int.emod_nonneg _ (by omega)
  have s1 : a3 % 67 < 67 := Int.emod_lt_of_pos _ (by omega)
  have s2 : 0 ≤ a2 % 40 := Int.emod_nonneg _ (by omega)
  have s3 : a2 % 40 < 40 := Int.emod_lt_of_pos _ (by omega)
  have s4 : 0 ≤ a4 % 34 := Int.emod_nonneg _ (by omega)
  have s5 : a4 % 34 < 34 := Int.emod_lt_of_pos _ (by omega)
  clear w0 w1 w2 w3 w4 hrow hfit hb0
  go_enter Try.func3, Try.ntmps3
  go_wp2_with fail
  generalize w.alloc (.cells #[.int .i64 x00, .int .i64 x01, .int .u64 x02, .int .u64 x03, .int .i64 x04] 26) = w1 at *
  have hlt := HX0.out.lt
  generalize htb : w.heap.size = tb at *
  have HTL : Hid (tb ≤ w.heap.size) := Lib.hid (by omega)
  have HTG : Hid (w.heap.size ≤ tb) := Lib.hid (by omega)
  clear htb
  refine HOF.out.mono ?_
  rintro x w2 ⟨b, rfl, hts2, hge, hb2⟩
  have HEV := Lib.hid (made_any hts2 hge hb2 HFT.out)
  clear hts2 hb2 HOF hge
  go_wp2_with fail
  refine HEV.out.mono ?_
  rintro x w3 ⟨p, o, h, a, e, hchk, hh, ha, rfl, hb3⟩
  have HQ := Lib.hid (And.intro hh ha)
  have hx3 := HX0.out.go hb3
  have hz3 := hx3.lt
  have hb4 : Below w3.heap.size w3 ((w3.alloc (.cells #[.int .i64 p, .int .i64 o, .int .u64 h, .int .u64 a, .int .i64 e] 26)).alloc (.cells #[.int .i64 (a3 % 67 - 1), .int .i64 (a2 % 40), .int .u64 0, .int .u64 0, .int .i64 (a4 % 34 - 2)] 26)) := ((Below.refl _ _).alloc (Nat.le_refl _) _).alloc (by simp) _
  have hb5 : Below w3.heap.size w3 (((w3.alloc (.cells #[.int .i64 p, .int .i64 o, .int .u64 h, .int .u64 a, .int .i64 e] 26)).alloc (.cells #[.int .i64 (a3 % 67 - 1), .int .i64 (a2 % 40), .int .u64 0, .int .u64 0, .int .i64 (a4 % 34 - 2)] 26)).alloc (.cells #[.int .i64 x00, .int .i64 x01, .int .u64 x02, .int .u64 x03, .int .i64 x04, .int .i64 p, .int .i64 o, .int .u64 h, .int .u64 a, .int .i64 e, .int .i64 (a3 % 67 - 1), .int .i64 (a2 % 40), .int .u64 0, .int .u64 0, .int .i64 (a4 % 34 - 2)] 26)) := hb4.alloc (by simp <;> omega) _
  have HB5 := Lib.hid (Below.then (Below.then HB0.out hb3 HTL.out) hb5 HTL.out)
  have hs1 : (w3.alloc (.cells #[.int .i64 p, .int .i64 o, .int .u64 h, .int .u64 a, .int .i64 e] 26)).heap.size = w3.heap.size + 1 := by simp
  have hs2 : ((w3.alloc (.cells #[.int .i64 p, .int .i64 o, .int .u64 h, .int .u64 a, .int .i64 e] 26)).alloc (.cells #[.int .i64 (a3 % 67 - 1), .int .i64 (a2 % 40), .int .u64 0, .int .u64 0, .int .i64 (a4 % 34 - 2)] 26)).heap.size = w3.heap.size + 1 + 1 := by simp
  have hs3 : (((w3.alloc (.cells #[.int .i64 p, .int .i64 o, .int .u64 h, .int .u64 a, .int .i64 e] 26)).alloc (.cells #[.int .i64 (a3 % 67 - 1), .int .i64 (a2 % 40), .int .u64 0, .int .u64 0, .int .i64 (a4 % 34 - 2)] 26)).alloc (.cells #[.int .i64 x00, .int .i64 x01, .int .u64 x02, .int .u64 x03, .int .i64 x04, .int .i64 p, .int .i64 o, .int .u64 h, .int .u64 a, .int .i64 e, .int .i64 (a3 % 67 - 1), .int .i64 (a2 % 40), .int .u64 0, .int .u64 0, .int .i64 (a4 % 34 - 2)] 26)).heap.size = w3.heap.size + 1 + 1 + 1 := by simp
  have hX : EvB ((w3.alloc (.cells #[.int .i64 p, .int .i64 o, .int .u64 h, .int .u64 a, .int .i64 e] 26)).alloc (.cells #[.int .i64 (a3 % 67 - 1), .int .i64 (a2 % 40), .int .u64 0, .int .u64 0, .int .i64 (a4 % 34 - 2)] 26)) w3.heap.size p o h a e := EvB.new.go ((Below.refl _ _).alloc (Nat.le_refl _) _)
  have hY : EvB ((w3.alloc (.cells #[.int .i64 p, .int .i64 o, .int .u64 h, .int .u64 a, .int .i64 e] 26)).alloc (.cells #[.int .i64 (a3 % 67 - 1), .int .i64 (a2 % 40), .int .u64 0, .int .u64 0, .int .i64 (a4 % 34 - 2)] 26)) (w3.heap.size + 1) (a3 % 67 - 1) (a2 % 40) 0 0 (a4 % 34 - 2) := by
    have := EvB.new (w := (w3.alloc (.cells #[.int .i64 p, .int .i64 o, .int .u64 h, .int .u64 a, .int .i64 e] 26))) (p := (a3 % 67 - 1)) (o := (a2 % 40)) (h := 0) (a := 0) (e := (a4 % 34 - 2))
    rwa [hs1] at this
  obtain ⟨c0, c1, c2, c3, c4⟩ := (hx3.go hb4).cells
  obtain ⟨d0, d1, d2, d3, d4⟩ := hX.cells
  obtain ⟨f0, f1, f2, f3, f4⟩ := hY.cells
  have hS : (((w3.alloc (.cells #[.int .i64 p, .int .i64 o, .int .u64 h, .int .u64 a, .int .i64 e] 26)).alloc (.cells #[.int .i64 (a3 % 67 - 1), .int .i64 (a2 % 40), .int .u64 0, .int .u64 0, .int .i64 (a4 % 34 - 2)] 26)).alloc (.cells #[.int .i64 x00, .int .i64 x01, .int .u64 x02, .int .u64 x03, .int .i64 x04, .int .i64 p, .int .i64 o, .int .u64 h, .int .u64 a, .int .i64 e, .int .i64 (a3 % 67 - 1), .int .i64 (a2 % 40), .int .u64 0, .int .u64 0, .int .i64 (a4 % 34 - 2)] 26)).heap[w3.heap.size + 1 + 1]? = some (.cells #[.int .i64 x00, .int .i64 x01, .int .u64 x02, .int .u64 x03, .int .i64 x04, .int .i64 p, .int .i64 o, .int .u64 h, .int .u64 a, .int .i64 e, .int .i64 (a3 % 67 - 1), .int .i64 (a2 % 40), .int .u64 0, .int .u64 0, .int .i64 (a4 % 34 - 2)] 26 (0, 0)) := by
    have := heap_alloc_new ((w3.alloc (.cells #[.int .i64 p, .int .i64 o, .int .u64 h, .int .u64 a, .int .i64 e] 26)).alloc (.cells #[.int .i64 (a3 % 67 - 1), .int .i64 (a2 % 40), .int .u64 0, .int .u64 0, .int .i64 (a4 % 34 - 2)] 26)) (.cells #[.int .i64 x00, .int .i64 x01, .int .u64 x02, .int .u64 x03, .int .i64 x04, .int .i64 p, .int .i64 o, .int .u64 h, .int .u64 a, .int .i64 e, .int .i64 (a3 % 67 - 1), .int .i64 (a2 % 40), .int .u64 0, .int .u64 0, .int .i64 (a4 % 34 - 2)] 26)
    rwa [hs2] at this
  have HS := Lib.hid hS
  have HEVS := Lib.hid (fun j (hj : j < 3) => evs_all hS HRB.out HQ.out ⟨⟨Int.le_refl _, by omega⟩, Int.le_refl _, by omega⟩ hj)
  clear hb3 HEV hchk hh ha hx3 hb4 hb5 hs1 hs2 hs3 hX hY hS HX0 HB0 HS HRB HQ
  go_wp2
  generalize ((w3.alloc (.cells #[.int .i64 p, .int .i64 o, .int .u64 h, .int .u64 a, .int .i64 e] 26)).alloc (.cells #[.int .i64 (a3 % 67 - 1), .int .i64 (a2 % 40), .int .u64 0, .int .u64 0, .int .i64 (a4 % 34 - 2)] 26)).alloc (.cells #[.int .i64 x00, .int .i64 x01, .int .u64 x02, .int .u64 x03, .int .i64 x04, .int .i64 p, .int .i64 o, .int .u64 h, .int .u64 a, .int .i64 e, .int .i64 (a3 % 67 - 1), .int .i64 (a2 % 40), .int .u64 0, .int .u64 0, .int .i64 (a4 % 34 - 2)] 26) = ws at *
  generalize w3.heap.size = t3 at *
  clear c0 c1 c2 c3 c4 d0 d1 d2 d3 d4 f0 f1 f2 f3 f4 s0 s1 s2 s3 s4 s5
  go_loopw [39] (fun kv wr => ∃ (j : Nat), j ≤ 3 ∧ kv = .int .i64 j ∧ Hid (Below ws.heap.size ws wr)) (fun kv _ => 3 - (intOf kv).toNat)
  case atStart => exact ⟨0, by omega, rfl, Lib.hid (Below.refl _ _)⟩
  case round =>
    obtain ⟨j, hj, rfl, HBR⟩ := hrel
    by_cases hj3 : j < 3
    · have hj1 : (j : Int) < 3 := by omega
      obtain ⟨p, o, h, a, e, hh, ha, hev⟩ := HEVS.out j hj3
      obtain ⟨q0, q1, q2, q3, q4⟩ := hev wr HBR.out
      have hb4 : Below wr.heap.size wr (wr.alloc (.cells #[.int .i64 p, .int .i64 o, .int .u64 h, .int .u64 a, .int .i64 e] 26)) := (Below.refl _ _).alloc (Nat.le_refl _) _
      have HB4 := Lib.hid (Below.then HBR.out hb4 (Nat.le_refl _))
      have HX4 := Lib.hid (EvB.new (w := wr) (p := p) (o := o) (h := h) (a := a) (e := e))
      have HE1 := Lib.hid (encode_any p o h a e (wr.alloc (.cells #[.int .i64 p, .int .i64 o, .int .u64 h, .int .u64 a, .int .i64 e] 26)) hh ha)
      have HE2 := Lib.hid (fun W => encodeR_any p o h a e W hh ha)
      have HC1 := Lib.hid (fun W => check_any p o h a e W)
      have HC2 := Lib.hid (fun W => checkR_any p o h a e W)
      have HES : Hid (Small (encO p o h a e)) := Lib.hid encO_small
      unfold EncE at HE1 HE2
      obtain ⟨c0, c1, c2, c3, c4⟩ := HX4.out.cells
      generalize chkV p o e = k at *
      generalize encO p o h a e = E at *
      clear hev hb4 hh ha
      go_wp2_with fail
      generalize wr.alloc (.cells #[.int .i64 p, .int .i64 o, .int .u64 h, .int .u64 a, .int .i64 e] 26) = w4 at *
      generalize wr.heap.size = tr at *
      refine HE1.out.mono ?_
      rintro x w5 ⟨v5, rfl, ho5, hb5⟩
      obtain ⟨A5, n5, c5, rfl, hr5⟩ := ho5.shape
      have HR5 := Lib.hid hr5
      have HB5' := Lib.hid (Below.then HB4.out hb5 (Nat.le_refl _))
      have HX5 := Lib.hid (HX4.out.go hb5)
      have HE3 := Lib.hid (HE2.out w5)
      clear ho5 hr5 hb5 HE1 HE2 HB4 HX4 c0 c1 c2 c3 c4 q0 q1 q2 q3 q4
      obtain ⟨c0, c1, c2, c3, c4⟩ := HX5.out.cells
      go_wp2_with fail
      refine HE3.out.mono ?_
      rintro x w8 ⟨v8, rfl, ho8, hb8⟩
      obtain ⟨A8, n8, c8, rfl, hr8⟩ := ho8.shape
      have HB8 := Lib.hid (Below.then HB5'.out hb8 (Nat.le_refl _))
      have HX8 := Lib.hid (HX5.out.go hb8)
      have HS5 := Lib.hid (HR5.out.go hb8)
      have HR8 := Lib.hid hr8
      have HT1 : Hid (∀ W, Below w8.heap.size w8 W → (convert 32 9 (.slice A5 n5 c5)).run Try.prog W = .ok (.string (strOfNums E)) W) := Lib.hid (fun W hW => bts_run (HS5.out.below hW))
      have HT2 : Hid (∀ W, Below w8.heap.size w8 W → (convert 32 9 (.slice A8 n8 c8)).run Try.prog W = .ok (.string (strOfNums E)) W) := Lib.hid (fun W hW => bts_run (HR8.out.below hW))
      have HCX : Hid (∀ W, Below w8.heap.size w8 W → EvB W tr p o h a e) := Lib.hid (fun W hW => HX8.out.go hW)
      have HD0 : Hid (Below w8.heap.size w8 w8.drew) := Lib.hid (below_drewN (Below.refl _ w8) 1)
      generalize strOfNums E = S2 at *
      clear ho8 hr8 hb8 HE3 HB5' HX5 HR5 c0 c1 c2 c3 c4 HX8 HS5 HR8 HES
      go_wp2
      refine wp_region_hand 17 (fun W => Below w8.heap.size w8 W) (by kernel_rfl) (by kernel_rfl) ?_
      rw [show Array.replicate 17 false = #[false, false, false, false, false, false, false, false, false, false, false, false, false, false, false, false, false] from rfl]
      have hHeld := HD0.out
      refine held_take (i := 0) (d := 53) (v := .slice A5 n5 c5) rfl rfl (by kernel_rfl) (by kernel_rfl) (by kernel_rfl) (fun _ _ _ h => h) (by rfl) (fun W _ => run_move_is (.tmp 15) rfl rfl W) hHeld ?_
      simp only [Act.put, List.setIfInBounds_toArray, List.set_cons_zero, List.set_cons_succ]
      refine held_take (i := 1) (d := 54) (v := .string S2) rfl rfl (by kernel_rfl) (by kernel_rfl) (by kernel_rfl) (fun _ _ _ h => h) (by rfl) (fun W hW => by have q := HT1.out W hW; go_simp) hHeld ?_
      simp only [Act.put, List.setIfInBounds_toArray, List.set_cons_zero, List.set_cons_succ]
      refine held_take (i := 2) (d := 55) (v := .slice A8 n8 c8) rfl rfl (by kernel_rfl) (by kernel_rfl) (by kernel_rfl) (fun _ _ _ h => h) (by rfl) (fun W _ => run_move_is (.tmp 17) rfl rfl W) hHeld ?_
      simp only [Act.put, List.setIfInBounds_toArray, List.set_cons_zero, List.set_cons_succ]
      refine held_take (i := 3) (d := 56) (v := .string S2) rfl rfl (by kernel_rfl) (by kernel_rfl) (by kernel_rfl) (fun _ _ _ h => h) (by rfl) (fun W hW => by have q := HT2.out W hW; go_simp) hHeld ?_
      simp only [Act.put, List.setIfInBounds_toArray, List.set_cons_zero, List.set_cons_succ]
      refine held_take (i := 4) (d := 57) (v := .bool false) rfl rfl (by kernel_rfl) (by kernel_rfl) (by kernel_rfl) (fun _ _ _ h => h) (by rfl) (fun W _ => by go_simp) hHeld ?_
      simp only [Act.put, List.setIfInBounds_toArray, List.set_cons_zero, List.set_cons_succ]
      refine held_take (i := 5) (d := 58) (v := .bool false) rfl rfl (by kernel_rfl) (by kernel_rfl) (by kernel_rfl) (fun _ _ _ h => h) (by rfl) (fun W _ => run_move_is (.tmp 57) rfl rfl W) hHeld ?_
      simp only [Act.put, List.setIfInBounds_toArray, List.set_cons_zero, List.set_cons_succ]
      refine held_take (i := 6) (d := 59) (v := .int .i64 k) rfl rfl (by kernel_rfl) (by kernel_rfl) (by kernel_rfl) (fun _ _ _ h => h) (by rfl) (fun W _ => run_move_is (.tmp 16) rfl rfl W) hHeld ?_
      simp only [Act.put, List.setIfInBounds_toArray, List.set_cons_zero, List.set_cons_succ]
      refine held_take (i := 7) (d := 60) (v := .int .i64 k) rfl rfl (by kernel_rfl) (by kernel_rfl) (by kernel_rfl) (fun _ _ _ h => h) (by rfl) (fun W _ => run_move_is (.tmp 18) rfl rfl W) hHeld ?_
      simp only [Act.put, List.setIfInBounds_toArray, List.set_cons_zero, List.set_cons_succ]
      refine held_take (i := 8) (d := 61) (v := .bool false) rfl rfl (by kernel_rfl) (by kernel_rfl) (by kernel_rfl) (fun _ _ _ h => h) (by rfl) (fun W _ => by go_simp) hHeld ?_
      simp only [Act.put, List.setIfInBounds_toArray, List.set_cons_zero, List.set_cons_succ]
      refine held_take (i := 9) (d := 62) (v := .bool false) rfl rfl (by kernel_rfl) (by kernel_rfl) (by kernel_rfl) (fun _ _ _ h => h) (by rfl) (fun W _ => by go_simp) hHeld ?_
      simp only [Act.put, List.setIfInBounds_toArray, List.set_cons_zero, List.set_cons_succ]
      refine held_take (i := 10) (d := 63) (v := .bool false) rfl rfl (by kernel_rfl) (by kernel_rfl) (by kernel_rfl) (fun _ _ _ h => h) (by rfl) (fun W _ => run_move_is (.tmp 62) rfl rfl W) hHeld ?_
      simp only [Act.put, List.setIfInBounds_toArray, List.set_cons_zero, List.set_cons_succ]
      refine held_take (i := 11) (d := 64) (v := .agg #[.int .i64 p, .int .i64 o, .int .u64 h, .int .u64 a, .int .i64 e]) rfl rfl (by kernel_rfl) (by kernel_rfl) (by kernel_rfl) (fun _ _ _ h => h) (by rfl) (fun W hW => by have q := HCX.out W hW; obtain ⟨q0, q1, q2, q3, q4⟩ := q.cells; go_simp) hHeld ?_
      simp only [Act.put, List.setIfInBounds_toArray, List.set_cons_zero, List.set_cons_succ]
      refine held_take (i := 13) (d := 66) (v := .agg #[.int .i64 p, .int .i64 o, .int .u64 h, .int .u64 a, .int .i64 e]) rfl rfl (by kernel_rfl) (by kernel_rfl) (by kernel_rfl) (fun _ _ _ h => h) (by rfl) (fun W hW => by have q := HCX.out W hW; obtain ⟨q0, q1, q2, q3, q4⟩ := q.cells; go_simp) hHeld ?_
      simp only [Act.put, List.setIfInBounds_toArray, List.set_cons_zero, List.set_cons_succ]
      have HCL := Lib.hid (HC1.out w8.drew)
      refine held_one (i := 12) (by kernel_rfl) ?_
      refine held_callX (d := 65) rfl rfl (by rfl) rfl (by kernel_rfl) Try.func12 (by kernel_rfl) HCL.out ?_
      rintro x w9 ⟨rfl, hb9⟩
      have HD1 := Lib.hid (Below.then HD0.out hb9 (Nat.le_refl _))
      clear hb9
      refine ⟨_, rfl, ?_⟩
      clear HCL hHeld
      have hHeld := HD1.out
      refine ⟨hHeld, ?_⟩
      simp only [Act.put, List.setIfInBounds_toArray, List.set_cons_zero, List.set_cons_succ]
      have HCL := Lib.hid (HC2.out w9)
      refine held_one (i := 14) (by kernel_rfl) ?_
      refine held_callX (d := 67) rfl rfl (by rfl) rfl (by kernel_rfl) Try.func13 (by kernel_rfl) HCL.out ?_
      rintro x w10 ⟨rfl, hb10⟩
      have HD2 := Lib.hid (Below.then HD1.out hb10 (Nat.le_refl _))
      clear hb10
      refine ⟨_, rfl, ?_⟩
      clear HCL hHeld
      have hHeld := HD2.out
      refine ⟨hHeld, ?_⟩
      simp only [Act.put, List.setIfInBounds_toArray, List.set_cons_zero, List.set_cons_succ]
      refine held_take (i := 15) (d := 68) (v := .bool false) rfl rfl (by kernel_rfl) (by kernel_rfl) (by kernel_rfl) (fun _ _ _ h => h) (by rfl) (fun W _ => by go_simp) hHeld ?_
      simp only [Act.put, List.setIfInBounds_toArray, List.set_cons_zero, List.set_cons_succ]
      refine held_take (i := 16) (d := 69) (v := .bool false) rfl rfl (by kernel_rfl) (by kernel_rfl) (by kernel_rfl) (fun _ _ _ h => h) (by rfl) (fun W _ => by go_simp) hHeld ?_
      simp only [Act.put, List.setIfInBounds_toArray, List.set_cons_zero, List.set_cons_succ]
      refine wpAnyH_done (by kernel_rfl) ?_ _
      clear hHeld
      have HBN := Lib.hid (Below.then HB8.out HD2.out (Nat.le_refl _))
      clear HD0 HD1 HD2 HT1 HT2 HCX HC1 HC2 HB8
      go_wp2
      go_roundw
      case rel => exact ⟨j + 1, by omega, by go_num, HBN⟩
      case measure => simp [intOf]; omega
    · obtain rfl : j = 3 := by omega
      have HBT := Lib.hid (Below.then HB5.out HBR.out HTL.out)
      clear HBR HB5 HEVS
      go_wp2_with fail
      refine (awake16_any wr).mono ?_
      rintro x w9 ⟨rfl, hb9⟩
      have HB9 := Lib.hid (Below.then HBT.out hb9 HTL.out)
      clear hb9 HBT
      go_wp2
      go_ret
      exact ⟨rfl, HB9.out.mono HTG.out⟩
end Go.Proofs.Ytfhcpgcjahjnmaa
