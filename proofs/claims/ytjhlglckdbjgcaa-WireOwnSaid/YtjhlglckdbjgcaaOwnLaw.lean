/-
  The law WireOwn as a walk: it returns true and changes nothing that was there. No conditions beyond the types of the arguments.
-/
import Derived.Test.YtjhlglckdbjgcaaWire
import Derived.Test.YtjhlglckdbjgcaaBlk
import Derived.OneCell
import Derived.Deep.RegionHeld3
import Derived.Deep.RegionWith
namespace Go.Proofs.Ytjhlglckdbjgcaa
open Go.ChangeShapes Go.WideShapes Go.ChangeAt Go.RowKit
set_option maxHeartbeats 8000000
set_option maxRecDepth 100000

/-- A store into a row of the call's own. -/
theorem Own.store {w : World} {base : Nat} {v : Value} {l : List Int} (h : Own w base v l) {k : Nat} (hk : k < l.length) :
    ∃ g cap, v = .slice (some ⟨g, 0, none⟩) l.length cap ∧ base ≤ g ∧ g < w.heap.size ∧ w.cell? ⟨g, k, none⟩ = some (.int .u8 (l.getD k 0)) ∧ w.frozen? ⟨g, k, none⟩ = false ∧
      ∀ x : Int, Own (w.setCell ⟨g, k, none⟩ (.int .u8 x)) base v (l.set k x) := by
  rcases h.2 with ⟨_, h0⟩ | ⟨g, cap, cur, rfl, hb, hg, hnc, hm, hs, ht⟩
  · omega
  · refine ⟨g, cap, rfl, hb, ?_, ?_, frozen_of_row w g k _ _ hg, fun x => ⟨?_, .inr ⟨g, cap, cur.setIfInBounds k (.int .u8 x), by rw [List.length_set], hb, heap_setCell_same w g k _ _ _ hg, by rw [List.length_set]; exact hnc, hm, by simpa using hs, ?_⟩⟩⟩
    · rcases Nat.lt_or_ge g w.heap.size with h1 | h1
      · exact h1
      · rw [Array.getElem?_eq_none h1] at hg; cases hg
    · rw [World.ownsRow.cellAt h k (by omega), bv_at hk]
    · rw [bv_len]; omega
    · rw [Array.toList_setIfInBounds, List.length_set, List.take_set, ht, bv_set]
theorem Own.apart {w : World} {base : Nat} {v : Value} {l : List Int} (h : Own w base v l) {a : Addr} (ha : a.block < base) (u : Value) : Own (w.setCell a u) base v l :=
  ownsRow_setCell_below h ha u

theorem wireOwn_walk (a0 : Option Addr) (len0 cap0 : Nat) (z0 : List Int) (a1 : Int) (a2 : Int) (w : World) (w0 : IsRow .u8 w a0 len0 cap0 z0) (w1 : (Lit.int .u64 a1).wf = true) (w2 : (Lit.int .u8 a2).wf = true) :
    Calls Try.prog 4 #[.slice a0 len0 cap0, .int .u64 a1, .int .u8 a2] w fun e w' => e = .returned (.bool true) ∧ Below w.heap.size w w' := by
  obtain ⟨i0, hi, hz0, hz1, hz2⟩ := info_parts info8
  obtain ⟨hB0, hS0⟩ := w0.byt
  obtain ⟨x0, x1⟩ := u64_bd w1
  obtain ⟨r0, r1⟩ := byte_bd w2
  have hl0 := hB0.cap
  have hm0 := hB0.small
  unfold maxLen at hm0
  generalize z0.take len0 = l at *
  have HB0 := Lib.hid hB0
  have HL0 := Lib.hid hB0.len
  clear hB0 hS0 w0 w1 w2 z0
  obtain ⟨y, hy⟩ : ∃ y, bits .xor .u64 a1 1 = y := ⟨_, rfl⟩
  obtain ⟨y0, y1⟩ := u64_bd (wf_bits .xor .u64 a1 1)
  rw [hy] at y0 y1
  by_cases hb0 : 100 < len0
  · have HA := Lib.hid (awake_any w)
    go_enter Try.func4, Try.ntmps4
    go_wp2_with fail
    refine HA.out.mono ?_
    rintro e w' ⟨rfl, hb⟩
    go_wp2
    go_ret
    exact ⟨rfl, hb⟩
  · obtain ⟨r, rfl⟩ : ∃ r : Nat, a2 = r := ⟨a2.toNat, by omega⟩
    go_enter Try.func4, Try.ntmps4
    go_wp2_with (first
      | (at_make; refine wpList_make_own _ rfl _ _ 22 rfl w.heap.size 5 i0 _ 1 Try.underlying22 hi hz0 hz1 _ _ _ (len0 + r) rfl rfl (by omega) (by rw [hz2]; omega) (by unfold maxLen; omega) (Nat.le_refl _) ?_
         intro w1 hown hg
         have hb1 : Below w.heap.size w w1 := (Below.refl _ _).grown hg (Nat.le_refl _) (by simp)
         have ho1 : Own w1 w.heap.size (.slice (some ⟨w.heap.size, 0, none⟩) 0 (len0 + r)) [] := hown
         clear hown hg)
      | (at_builtin; refine wpList_app _ rfl (.tmp 21) (.tmp 22) 22 rfl rfl Try.underlying22 hi hz0 hz1 hz2 ho1 rfl (HB0.out.below hb1) rfl (by simp; omega) hb1.size ?_
         intro v2 w2 ho2 hb2))
    rw [List.nil_append] at ho2
    have hb02 := hb1.trans hb2
    obtain ⟨A2, n2, c2, rfl, hB2⟩ := ho2.shape
    obtain rfl : n2 = len0 := by rw [← hB2.len]; exact HL0.out
    have HG : Hid (∀ g, A2 = some ⟨g, 0, none⟩ → g < w2.heap.size) := Lib.hid fun g e => (World.ownsRow.lt ho2 g (by rw [e]; rfl)).2
    have HO2 := Lib.hid ho2
    have HB2 := Lib.hid hB2
    have H02 := Lib.hid hb02
    clear ho1 hb1 hb2 ho2 hB2 hb02
    refine (putUint_any _ _ _ _ _ w2 HB2.out (by omega) x0 x1).mono ?_
    rintro e w3 ⟨v3, rfl, ho3, hb3⟩
    have HO3 := Lib.hid ho3
    have HB3 := Lib.hid hb3
    clear ho3 hb3
    go_wp2_with fail
    refine (putUint_any _ _ _ _ _ w3 (HB2.out.go HB3.out) (by omega) y0 y1).mono ?_
    rintro e w4 ⟨v4, rfl, ho4, hb4⟩
    have H24 : Hid (Below w2.heap.size w2 w4) := Lib.hid (HB3.out.trans (hb4.mono HB3.out.size))
    have HO4 := Lib.hid (ho4.down HB3.out.size)
    have HX := Lib.hid (HO3.out.below hb4)
    have HV := Lib.hid (HO2.out.below H24.out)
    clear ho4 hb4 HO3 HB3 HO2
    obtain ⟨T1, hT1⟩ : ∃ T, strOfNums (l ++ enc a1.toNat) = T := ⟨_, rfl⟩
    obtain ⟨T2, hT2⟩ : ∃ T, strOfNums (l ++ enc y.toNat) = T := ⟨_, rfl⟩
    have HT1 := Lib.hid hT1
    have HT2 := Lib.hid hT2
    clear hT1 hT2
    obtain ⟨A3, n3, c3, rfl, hB3⟩ := HX.out.shape
    have g0 := text_as hB3 HT1
    clear hB3
    go_wp2
    clear g0
    have hc2 := HB2.out.cap
    have hs2 := HB2.out.small
    unfold maxLen at hs2
    have H04 : Hid (Below w.heap.size w w4) := Lib.hid (H02.out.trans (H24.out.mono H02.out.size))
    clear H24 HB2
    go_loopw [35] (fun iv wr => ∃ (k : Nat) (m : List Int), k ≤ n2 ∧ iv = .int .i64 k ∧ Hid (m.length = n2) ∧ Hid (Own wr w.heap.size (.slice A2 n2 c2) m) ∧ Hid (Own wr w2.heap.size (.slice A3 n3 c3) (l ++ enc a1.toNat)) ∧ Hid (Own wr w2.heap.size v4 (l ++ enc y.toNat)) ∧ Hid (Below w.heap.size w wr)) (fun iv _ => n2 - (intOf iv).toNat)
    case atStart => exact ⟨0, l, by omega, rfl, HL0, HV, HX, HO4, H04⟩
    case round =>
      clear HV HX HO4 H04
      obtain ⟨k, m, hk, rfl, HM, HV, HX, HO4, HW⟩ := hrel
      by_cases hlt : k < n2
      · obtain ⟨g, cap, e1, hg0, hg1, hcell, hfr, hset⟩ := HV.out.store (k := k) (by rw [HM.out]; exact hlt)
        injection e1 with e1 e2 e3
        subst e1
        clear e2 e3
        have HSet := Lib.hid hset
        clear hset
        obtain ⟨c, hc⟩ : ∃ c, m.getD k 0 = c := ⟨_, rfl⟩
        rw [hc] at hcell
        have hgw := HG.out g rfl
        go_wp2
        refine ⟨⟨k + 1, m.set k _, by omega, by go_num, Lib.hid (by rw [List.length_set]; exact HM.out), Lib.hid (HSet.out _), Lib.hid (HX.out.apart hgw _), Lib.hid (HO4.out.apart hgw _), Lib.hid (HW.out.setCell hg0 _)⟩, by simp [intOf]; omega⟩
      · have K0 := Lib.hid (HB0.out.go HW.out)
        obtain ⟨A4, n4, c4, rfl, hB4⟩ := HO4.out.shape
        obtain ⟨A3', n3', c3', e3, hB3⟩ := HX.out.shape
        injection e3 with e1 e2 e3
        subst e1 e2 e3
        have K1 := Lib.hid hB3
        have K2 := Lib.hid hB4
        clear hB3 hB4 HV HX HO4 HM HB0 HG
        have hbw := HW.out
        have g0 := text_as K1.out HT1
        clear HW
        go_wp2
        go_region_with (first
          | (go_at_call 10
             refine (awake_any _).mono ?_
             rintro e w5 ⟨rfl, hb5⟩
             have J0 := Lib.hid ((K0.out.keep (w' := wr.drew) fun _ _ => rfl).go hb5)
             have J1 := Lib.hid ((K1.out.keep (w' := wr.drew) fun _ _ => rfl).go hb5)
             have J2 := Lib.hid ((K2.out.keep (w' := wr.drew) fun _ _ => rfl).go hb5)
             have g1 := text_as J1.out HT1
             clear K0 K1 K2)
          | (go_at_call 13
             first
             | (refine (putUintR_any _ _ _ _ a1 w5 J0.out (by omega) x0 x1).mono ?_
                rintro e w6 ⟨v6, rfl, ho6, hb6⟩
                obtain ⟨A6, n6, c6, rfl, hB6⟩ := ho6.shape
                have I0 := Lib.hid (J0.out.go hb6)
                have I2 := Lib.hid (J2.out.go hb6)
                have g2 := text_as hB6 HT1
                have g4 := text_as (J2.out.go hb6) HT2
                clear ho6 hB6 J0 J1 J2 g1)
             | (refine (putUintR_any _ _ _ _ y w6 I0.out (by omega) y0 y1).mono ?_
                rintro e w7 ⟨v7, rfl, ho7, hb7⟩
                obtain ⟨A7, n7, c7, rfl, hB7⟩ := ho7.shape
                have g5 := text_as (I2.out.go hb7) HT2
                have g6 := text_as hB7 HT2
                clear ho7 hB7 I0 I2 g2 g4)))
        all_goals
          go_wp2
          go_ret
          refine ⟨rfl, ?_⟩
          have h3 : Below w.heap.size w w5 := (hbw.drew).trans (hb5.mono hbw.size)
          have h4 := h3.trans (hb6.mono h3.size)
          exact h4.trans (hb7.mono h4.size)
end Go.Proofs.Ytjhlglckdbjgcaa
