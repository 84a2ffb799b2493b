/-
  The law EventNumbers as a walk: called with any arguments of its types it returns true. No conditions.
-/
import Derived.Test.YtfhcpgcjahjnmaaNub
namespace Go.Proofs.Ytfhcpgcjahjnmaa
open Go.ChangeShapes Go.WideShapes Go.ChangeAt Go.RowKit
set_option linter.unusedVariables false
set_option linter.unusedSimpArgs false
set_option maxHeartbeats 4000000
set_option maxRecDepth 100000

theorem box_cell {w : World} {t : Nat} {k : IntKind} {l : List Int} {e : TypeId} (x : w.heap[t]? = some (.cells (l.map (Value.int k)).toArray e (0, 0))) {i : Nat} (hi : i < l.length) : w.cell? ⟨t, i, none⟩ = some (.int k (l.getD i 0)) := by
  rw [cell_of_row w t i _ _ (0, 0) x]
  simp [List.getD, hi]
theorem eventNumbers_walk (l0 l1 : List Int) (a2 : Int) (a3 : Option Addr) (len3 cap3 : Nat) (z3 : List Int) (w : World) (n0 : l0.length = 5) (w0 : ∀ x ∈ l0, (Lit.int .u64 x).wf = true) (n1 : l1.length = 5) (w1 : ∀ x ∈ l1, (Lit.int .u8 x).wf = true) (w2 : (Lit.int .u8 a2).wf = true) (w3 : IsRow .u8 w a3 len3 cap3 z3) :
    Calls Try.prog 5 #[.agg (l0.map (Value.int .u64)).toArray, .agg (l1.map (Value.int .u8)).toArray, .int .u8 a2, .slice a3 len3 cap3] w fun e w' => e = .returned (.bool true) ∧ Below w.heap.size w w' := by
  obtain ⟨hm, hms⟩ := w3.bts
  generalize z3.take len3 = more at hm hms
  have hcap := hm.cap
  have hsm := hm.small
  unfold maxLen at hsm
  obtain ⟨f0, f1⟩ := byte_bd w2
  have hb1 : Below w.heap.size w ((w.alloc (.cells (l0.map (Value.int .u64)).toArray 43)).alloc (.cells (l1.map (Value.int .u8)).toArray 44)) := ((Below.refl _ _).alloc (Nat.le_refl _) _).alloc (by simp) _
  have hx0 : ((w.alloc (.cells (l0.map (Value.int .u64)).toArray 43)).alloc (.cells (l1.map (Value.int .u8)).toArray 44)).heap[w.heap.size]? = some (.cells (l0.map (Value.int .u64)).toArray 43 (0, 0)) := by
    rw [Below.heap_alloc _ _ _ (by simp)]
    exact heap_alloc_new w _
  have hx1 : ((w.alloc (.cells (l0.map (Value.int .u64)).toArray 43)).alloc (.cells (l1.map (Value.int .u8)).toArray 44)).heap[w.heap.size + 1]? = some (.cells (l1.map (Value.int .u8)).toArray 44 (0, 0)) := by
    have := heap_alloc_new (w.alloc (.cells (l0.map (Value.int .u64)).toArray 43)) (.cells (l1.map (Value.int .u8)).toArray 44)
    rw [show (w.alloc (.cells (l0.map (Value.int .u64)).toArray 43)).heap.size = w.heap.size + 1 by simp] at this
    exact this
  have HB1 := Lib.hid hb1
  have HX := Lib.hid (And.intro hx0 hx1)
  have HM := Lib.hid hm
  have HMS := Lib.hid hms
  have HL := Lib.hid (And.intro n0 n1)
  have HD0 : Hid (∀ j, j < 5 → 0 ≤ l0.getD j 0 ∧ l0.getD j 0 < 18446744073709551616) := Lib.hid (fun j hj => u64_bd (w0 _ (by simp [List.getD, n0, hj])))
  have HD1 : Hid (∀ j, j < 5 → 0 ≤ l1.getD j 0 ∧ l1.getD j 0 ≤ 255) := Lib.hid (fun j hj => byte_bd (w1 _ (by simp [List.getD, n1, hj])))
  clear w0 w1 w2 w3 hm hms hb1 hx0 hx1 n0 n1
  by_cases hm : len3 ≤ 20
  · have hmi : (len3 : Int) ≤ 20 := by omega
    go_enter Try.func5, Try.ntmps5
    go_wp2
    generalize (w.alloc (.cells (l0.map (Value.int .u64)).toArray 43)).alloc (.cells (l1.map (Value.int .u8)).toArray 44) = wb at *
    have HTB : Hid (w.heap.size ≤ w.heap.size) := Lib.hid (Nat.le_refl _)
    generalize htb : w.heap.size = tb at *
    have HTL : Hid (tb ≤ w.heap.size) := Lib.hid (by omega)
    have HTG : Hid (w.heap.size ≤ tb) := Lib.hid (by omega)
    clear htb HTB
    go_loopw [9, 10] (fun bw kv wr => ∃ (j : Nat), j ≤ 5 ∧ kv = .int .i64 j ∧ ∃ A n c, bw = .slice A n c ∧ n ≤ 10 * j ∧ Hid (∃ l, Bts wr wr.heap.size A n c l ∧ Small l ∧ Below wb.heap.size wb wr)) (fun _ kv _ => 5 - (intOf kv).toNat)
    case atStart => exact ⟨0, by omega, rfl, none, 0, 0, rfl, by omega, Lib.hid ⟨[], Bts.none_, fun x hx => by (cases hx), Below.refl _ _⟩⟩
    case round =>
      obtain ⟨j, hj, rfl, A2, n2, c2, rfl, hn2, hh⟩ := hrel
      obtain ⟨l2, hb2, hs2, hbw⟩ := hh.out
      have HBW := Lib.hid hbw
      have HB2 := Lib.hid hb2
      have HS2 := Lib.hid hs2
      clear hh hb2 hs2 hbw
      by_cases hj5 : j < 5
      · have hj1 : (j : Int) < 5 := by omega
        have g0 := box_cell ((HBW.out.block _ (Array.getElem?_eq_some_iff.1 HX.out.1).1).trans HX.out.1) (i := j) (by rw [HL.out.1]; exact hj5)
        have g1 := box_cell ((HBW.out.block _ (Array.getElem?_eq_some_iff.1 HX.out.2).1).trans HX.out.2) (i := j) (by rw [HL.out.2]; exact hj5)
        obtain ⟨x0, x1⟩ := HD0.out j hj5
        obtain ⟨y0, y1⟩ := HD1.out j hj5
        have HPX := Lib.hid (fun x h0 h1 => putUintR_any A2 n2 c2 l2 x wr HB2.out (by omega) h0 h1)
        have HQ : Hid (∀ (v : Value) (W : World) (x : Int), 0 ≤ x → x < 18446744073709551616 → OwnB W wr.heap.size v (l2 ++ enc x.toNat) → NumB W v (10 * j + 10)) := Lib.hid (fun v W x h0 h1 h => NumB.put h HS2.out (by rw [HB2.out.len]; exact hn2) h0 h1)
        generalize l0.getD j 0 = x at *
        generalize l1.getD j 0 = y at *
        go_wp2_with fail
        · have HPF := Lib.hid (HPX.out (x) (by omega) (by omega))
          unfold Made at HPF
          have HBZ := Lib.hid HBW.out.size
          clear HPX
          refine HPF.out.mono ?_
          rintro e w3 ⟨v3, rfl, ho3, hb3⟩
          obtain ⟨A4, n4, c4, l4, rfl, hb4, hs4, hn4⟩ := HQ.out v3 w3 (x) (by omega) (by omega) ho3
          have HF : Hid (∃ l, Bts w3 w3.heap.size A4 n4 c4 l ∧ Small l ∧ Below wb.heap.size wb w3) := Lib.hid ⟨l4, hb4, hs4, Below.then HBW.out hb3 (Nat.le_refl _)⟩
          clear ho3 hb3 hb4 hs4 HPF HQ HBW HB2 HS2 g0 g1
          go_wp2
          go_roundw
          case rel => exact ⟨j + 1, by omega, by go_num, A4, n4, c4, rfl, by omega, HF⟩
          case measure => simp [intOf]; omega
        · have z0 : 0 ≤ y % 70 := Int.emod_nonneg _ (by omega)
          have z1 : y % 70 < 70 := Int.emod_lt_of_pos _ (by omega)
          have HPF := Lib.hid (HPX.out (y % 70) (by omega) (by omega))
          unfold Made at HPF
          have HBZ := Lib.hid HBW.out.size
          clear HPX
          refine HPF.out.mono ?_
          rintro e w3 ⟨v3, rfl, ho3, hb3⟩
          obtain ⟨A4, n4, c4, l4, rfl, hb4, hs4, hn4⟩ := HQ.out v3 w3 (y % 70) (by omega) (by omega) ho3
          have HF : Hid (∃ l, Bts w3 w3.heap.size A4 n4 c4 l ∧ Small l ∧ Below wb.heap.size wb w3) := Lib.hid ⟨l4, hb4, hs4, Below.then HBW.out hb3 (Nat.le_refl _)⟩
          clear ho3 hb3 hb4 hs4 HPF HQ HBW HB2 HS2 g0 g1
          go_wp2
          go_roundw
          case rel => exact ⟨j + 1, by omega, by go_num, A4, n4, c4, rfl, by omega, HF⟩
          case measure => simp [intOf]; omega
      · obtain rfl : j = 5 := by omega
        have hn3 : n2 ≤ 50 := hn2
        obtain ⟨i0, hi, hz0, hz1, hz2⟩ := info_parts info8
        have hcap2 := HB2.out.cap
        have hsm2 := HB2.out.small
        unfold maxLen at hsm2
        have HLN2 := Lib.hid HB2.out.len
        have HLM := Lib.hid HM.out.len
        have hls : l2.length ≤ 50 := by rw [HLN2.out]; exact hn3
        have HBT := Lib.hid (Below.then HB1.out HBW.out HTL.out)
        clear HB1 HX HL HD0 HD1 hn2
        go_wp2_with fail
        refine (awake16_any wr).mono ?_
        rintro e w3 ⟨rfl, hb3⟩
        have HS := Lib.hid (same16_any A2 n2 c2 l2 w3 (HB2.out.go hb3) HS2.out (by omega))
        have HB3 := Lib.hid (Below.then HBT.out hb3 HTL.out)
        have HN3 := Lib.hid (HB2.out.go hb3)
        clear hb3 HBT HBW HB2
        go_wp2_with fail
        refine HS.out.mono ?_
        rintro e w4 ⟨rfl, hb4⟩
        have HB4 := Lib.hid (Below.then HB3.out hb4 HTL.out)
        have HN4 := Lib.hid (HN3.out.go hb4)
        have HM4 := Lib.hid (HM.out.below HB4.out)
        clear hb4 HB3 HN3 HS
        go_wp2_with (first
          | (at_builtin; refine wpList_appG _ (by rfl) (.tmp 43) (.tmp 44) 32 rfl rfl Try.underlying32 hi hz0 hz1 hz2 (base := w4.heap.size) (xs := []) (World.ownsRow_lit w4 #[] 0 (Nat.le_refl _) (Nat.zero_le _) rfl) rfl (HN4.out.alloc _) rfl (by simp; omega) (by simp) ?_
             intro v6 w6 ho6 hb6
             have hb6' : Below w4.heap.size w4 w6 := ((Below.refl _ _).alloc (Nat.le_refl _) _).trans hb6
             have HO6 : Hid (OwnB w6 w4.heap.size v6 l2) := Lib.hid (by simpa using ho6)
             have HB6 := Lib.hid hb6'
             have HM6 := Lib.hid (HM4.out.below (hb6'.mono (Nat.le_trans HTL.out HB4.out.size)))
             clear ho6 hb6 hb6')
          | (at_builtin; refine wpList_appG _ (by rfl) (.tmp 45) (.tmp 46) 32 rfl rfl Try.underlying32 hi hz0 hz1 hz2 HO6.out rfl HM6.out rfl (by omega) HB6.out.size ?_
             intro v7 w7 ho7 hb7
             obtain ⟨A7, n7, c7, rfl, hr7⟩ := ho7.shape
             have hn7 : n7 ≤ 1000 := by
               have := hr7.len
               have := HLM.out
               rw [List.length_append] at *
               omega
             have hb7' := HB6.out.trans hb7
             have HB7 := Lib.hid (Below.then HB4.out hb7' HTL.out)
             have HD7 := Lib.hid (same16_any A7 n7 c7 (l2 ++ more) w7 hr7 (HS2.out.app HMS.out) (by omega))
             clear ho7 hr7 hb7 hb7'))
        refine HD7.out.mono ?_
        rintro e w8 ⟨rfl, hb8⟩
        have HB8 := Lib.hid (Below.then HB7.out hb8 HTL.out)
        clear hb8 HD7 HB7
        go_wp2
        go_ret
        exact ⟨rfl, HB8.out.mono HTG.out⟩
  · have hmj : (20 : Int) < (len3 : Int) := by omega
    have HBT := HB1
    clear HX HL HD0 HD1 HM
    go_enter Try.func5, Try.ntmps5
    go_wp2_with fail
    generalize (w.alloc (.cells (l0.map (Value.int .u64)).toArray 43)).alloc (.cells (l1.map (Value.int .u8)).toArray 44) = wb at *
    refine (awake16_any wb).mono ?_
    rintro e w2 ⟨rfl, hb⟩
    have HB2 := Lib.hid (Below.then HBT.out hb (Nat.le_refl _))
    clear hb HBT HB1
    go_wp2
    go_ret
    exact ⟨rfl, HB2.out⟩
end Go.Proofs.Ytfhcpgcjahjnmaa
