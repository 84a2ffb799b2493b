/-
  The laws DigestSum, DigestChain and DigestByte as walks: they return true and change nothing that was there. No conditions beyond the types of the arguments.
-/
import Derived.Test.YtjchaonbccfjhaaVer
namespace Go.Proofs.Ytjchaonbccfjhaa
open Go.ChangeShapes Go.WideShapes Go.ChangeAt Go.RowKit
set_option maxHeartbeats 1000000
set_option maxRecDepth 100000

theorem digestSum_walk (a0 : Option Addr) (len0 cap0 : Nat) (z0 : List Int) (a1 : Int) (w : World) (w0 : IsRow .u8 w a0 len0 cap0 z0) (w1 : (Lit.int .u64 a1).wf = true) :
    Calls Try.prog 3 #[.slice a0 len0 cap0, .int .u64 a1] w fun e w' => e = .returned (.bool true) ∧ Below w.heap.size w w' := by
  obtain ⟨hR, hF⟩ := w0.row
  obtain ⟨x0, x1⟩ := u64_bd w1
  have hcap := hR.cap
  have hsm := hR.small
  unfold maxLen at hsm
  generalize z0.take len0 = l at *
  have HR := Lib.hid hR
  have HF := Lib.hid hF
  have HA := Lib.hid (awake_any w)
  clear hR hF w0 w1 z0
  by_cases hb : 400 < len0
  · go_enter Try.func3, Try.ntmps3
    go_wp2_with fail
    refine HA.out.mono ?_
    rintro e w' ⟨rfl, hb⟩
    go_wp2
    go_ret
    exact ⟨rfl, hb⟩
  · go_enter Try.func3, Try.ntmps3
    go_wp2_with fail
    refine HA.out.mono ?_
    rintro e w1 ⟨rfl, hb1⟩
    have HR1 := Lib.hid (HR.out.go hb1)
    have HW := Lib.hid hb1
    clear HR HA hb1
    go_wp2_with fail
    refine (sum_any _ _ _ _ w1 HR1.out HF.out (by omega)).mono ?_
    rintro e w' ⟨rfl, rfl⟩
    go_wp2_with fail
    refine (sumR_any _ _ _ _ w1 HR1.out HF.out (by omega)).mono ?_
    rintro e w' ⟨rfl, rfl⟩
    generalize fnv start l = s
    go_wp2_with fail
    refine (chain_any a1 _ _ _ _ w1 HR1.out HF.out (by omega) x0 x1).mono ?_
    rintro e w' ⟨rfl, rfl⟩
    go_wp2_with fail
    refine (chainR_any a1 _ _ _ _ w1 HR1.out HF.out (by omega)).mono ?_
    rintro e w2 ⟨rfl, hb2⟩
    generalize chn a1 l = s2
    go_wp2
    go_ret
    exact ⟨rfl, HW.out.trans (hb2.mono HW.out.size)⟩

theorem digestChain_walk (a0 : Option Addr) (len0 cap0 : Nat) (rs : List Rec) (w : World) (w0 : IsRecs w a0 len0 cap0 rs) :
    Calls Try.prog 4 #[.slice a0 len0 cap0] w fun e w' => e = .returned (.bool true) ∧ Below w.heap.size w w' := by
  have hA : Arg w a0 len0 cap0 rs := ⟨w0.1, w0.2⟩
  have hcap := hA.row.cap
  have hsm := hA.row.small
  unfold maxLen at hsm
  have HG := Lib.hid hA
  have HF := Lib.hid (few_any _ _ _ _ w hA)
  have HA := Lib.hid (awake_any w)
  clear hA w0
  go_enter Try.func4, Try.ntmps4
  go_wp2_with fail
  refine HF.out.mono ?_
  rintro e w' ⟨b, rfl, rfl, hb⟩
  clear HF
  cases b with
  | false =>
    clear hb
    go_wp2_with fail
    refine HA.out.mono ?_
    rintro e w' ⟨rfl, hb⟩
    go_wp2
    go_ret
    exact ⟨rfl, hb⟩
  | true =>
    obtain ⟨hn, hs⟩ := hb rfl
    have HS : Hid (Short 1000 rs) := Lib.hid fun r hr => by have := hs r hr; omega
    clear hb hs
    go_wp2_with fail
    refine HA.out.mono ?_
    rintro e w1 ⟨rfl, hb1⟩
    have HG1 := Lib.hid (HG.out.go hb1)
    clear HA HG
    go_wp2_with fail
    refine (digests_any _ _ _ _ w1 HG1.out (by omega) HS.out).mono ?_
    rintro e w2 ⟨v2, rfl, ho2, hb2⟩
    have HG2 := Lib.hid (HG1.out.go hb2)
    have HO2 := Lib.hid ho2
    have HW2 : Hid (Below w.heap.size w w2) := Lib.hid (hb1.trans (hb2.mono hb1.size))
    clear HG1 ho2 hb1 hb2
    go_wp2_with fail
    refine (digestsR_any _ _ _ _ w2 HG2.out (by omega) HS.out).mono ?_
    rintro e w3 ⟨v3, rfl, ho3, hb3⟩
    obtain ⟨A2, n2, c2, rfl, hB2⟩ := (HO2.out.below hb3).shape
    obtain ⟨A3, n3, c3, rfl, hB3⟩ := ho3.shape
    have HW3 : Hid (Below w.heap.size w w3) := Lib.hid (HW2.out.trans (hb3.mono HW2.out.size))
    have HE := Lib.hid (same_any A2 n2 c2 _ A3 n3 c3 w3 hB2 hB3)
    clear HG2 HO2 HW2 ho3 hb3 hB2 hB3
    go_wp2_with fail
    refine HE.out.mono ?_
    rintro e w4 ⟨rfl, hb4⟩
    go_wp2
    go_ret
    exact ⟨rfl, HW3.out.trans (hb4.mono HW3.out.size)⟩

theorem digestByte_walk (a0 : Option Addr) (len0 cap0 : Nat) (z0 : List Int) (a1 a2 a3 : Int) (w : World) (w0 : IsRow .u8 w a0 len0 cap0 z0) (w1 : (Lit.int .u16 a1).wf = true) (w2 : (Lit.int .u8 a2).wf = true) (w3 : (Lit.int .u64 a3).wf = true) :
    Calls Try.prog 8 #[.slice a0 len0 cap0, .int .u16 a1, .int .u8 a2, .int .u64 a3] w fun e w' => e = .returned (.bool true) ∧ Below w.heap.size w w' := by
  obtain ⟨i0, hi, hz0, hz1, hz2⟩ := info_parts info8
  obtain ⟨hR, hF⟩ := w0.row
  obtain ⟨t0, t1⟩ := u16_bd w1
  obtain ⟨y0, y1⟩ := byte_bd w2
  obtain ⟨x0, x1⟩ := u64_bd w3
  have hcap := hR.cap
  have hsm := hR.small
  unfold maxLen at hsm
  generalize z0.take len0 = l at *
  have HL : Hid (l.length = len0) := Lib.hid (by have := hR.len; rwa [iv_len] at this)
  have HR := Lib.hid hR
  have HF := Lib.hid hF
  have HA := Lib.hid (awake_any w)
  clear hR hF w0 w1 w2 w3 z0
  by_cases hb : len0 = 0 ∨ 200 < len0 ∨ a2 = 0
  · by_cases hb0 : len0 = 0
    · subst hb0
      clear hb
      go_enter Try.func8, Try.ntmps8
      go_wp2_with fail
      refine HA.out.mono ?_
      rintro e w' ⟨rfl, hb⟩
      go_wp2
      go_ret
      exact ⟨rfl, hb⟩
    · have k0 : ((len0 : Int) == 0) = false := by rw [beq_eq_false_iff_ne]; omega
      have hp : 0 < len0 := by omega
      by_cases hb1 : 200 < len0
      · clear hb hb0
        go_enter Try.func8, Try.ntmps8
        go_wp2_with fail
        refine HA.out.mono ?_
        rintro e w' ⟨rfl, hb⟩
        go_wp2
        go_ret
        exact ⟨rfl, hb⟩
      · obtain rfl : a2 = 0 := by omega
        clear hb hb0
        go_enter Try.func8, Try.ntmps8
        go_wp2_with fail
        refine HA.out.mono ?_
        rintro e w' ⟨rfl, hb⟩
        go_wp2
        go_ret
        exact ⟨rfl, hb⟩
  · have k0 : ((len0 : Int) == 0) = false := by rw [beq_eq_false_iff_ne]; omega
    have k1 : (a2 == 0) = false := by rw [beq_eq_false_iff_ne]; omega
    have hp : 0 < len0 := by omega
    have hp2 : ¬ 200 < len0 := by omega
    have hp3 : 0 < a2 := by omega
    obtain ⟨t, rfl⟩ : ∃ t : Nat, a1 = t := ⟨a1.toNat, by omega⟩
    clear hb
    go_enter Try.func8, Try.ntmps8
    have hk : t % len0 < len0 := Nat.mod_lt _ hp
    obtain ⟨j, hj⟩ : ∃ j, t % len0 = j := ⟨_, rfl⟩
    rw [hj] at hk
    have hj1 : (t : Int).tmod (len0 : Int) = (j : Int) := by
      rw [← hj, Int.tmod_eq_emod_of_nonneg (by omega)]; rfl
    have hj2 : (t : Int) % (len0 : Int) = (j : Int) := by rw [← hj]; rfl
    clear hj
    obtain ⟨q, hq⟩ : ∃ q, l.getD j 0 = q := ⟨_, rfl⟩
    obtain ⟨q0, q1⟩ := byte_bd (HF.out.at_ (by decide) j)
    rw [hq] at q0 q1
    have HQ := Lib.hid hq
    clear hq
    go_wp2_with (first
      | (at_builtin; go_must (refine wpList_app _ rfl (.tmp 23) (.tmp 24) 22 rfl Try.underlying22 hi hz0 rfl hz1 (by omega) (base := w.heap.size) (xs := []) (World.ownsRow_lit w #[] 0 (Nat.le_refl _) (Nat.zero_le _) rfl) rfl (HR.out.alloc _) rfl iv_one (by simp; omega) (by simp) ?_)
         intro v2 w2 ho2 hb2
         have hlen : (iv .u8 l).length = len0 := by rw [iv_len, HL.out]
         obtain ⟨g, cap, e, hg0, hg1, hcell, hfr, hset⟩ := (show Own 5 w2 w.heap.size v2 (iv .u8 l) from ho2).store (k := j) (by rw [hlen]; exact hk)
         rw [hlen] at e
         subst e
         rw [iv_at (by rw [HL.out]; exact hk), HQ.out] at hcell
         have HW2 : Hid (Below w.heap.size w w2) := Lib.hid (((Below.refl _ _).alloc (Nat.le_refl _) _).trans hb2)
         have HSet := Lib.hid hset
         clear hset hlen ho2 hb2))
    obtain ⟨xb0, xb1⟩ := bx_bd q0 q1 y0 y1
    have hne : l.getD j 0 ≠ bits .xor .u8 q a2 := by rw [HQ.out]; exact bx_ne q0 q1 hp3 y1
    have ho3 := HSet.out (.int .u8 (bits .xor .u8 q a2))
    rw [iv_set] at ho3
    have hb3 : Below w.heap.size w (w2.setCell ⟨g, j, none⟩ (.int .u8 (bits .xor .u8 q a2))) := HW2.out.setCell hg0 _
    generalize w2.setCell ⟨g, j, none⟩ (.int .u8 (bits .xor .u8 q a2)) = w3 at *
    generalize bits .xor .u8 q a2 = x at *
    have hkl : j < l.length := by rw [HL.out]; exact hk
    have hfx : Fit .u8 (l.set j x) := fun y hy => by
      rcases List.mem_or_eq_of_mem_set hy with h | rfl
      · exact HF.out y h
      · exact WalkArith.wf_u8 ⟨xb0, xb1⟩
    have hn1 := fnv_set HF.out hkl xb0 xb1 hne start_bd.1 start_bd.2
    have hd := fnv_bd start_bd.1 start_bd.2 (low 8 a3)
    have hn2 : chn a3 l ≠ chn a3 (l.set j x) := fnv_set HF.out hkl xb0 xb1 hne hd.1 hd.2
    have HFX := Lib.hid hfx
    have HO3 := Lib.hid ho3
    have HW3 := Lib.hid hb3
    generalize l.set j x = l2 at *
    clear ho3 hb3 hfx hne hkl hd HSet hcell hfr HW2 HQ hj1 hj2 HA hg0 hg1
    refine (awake_any w3).mono ?_
    rintro e w4 ⟨rfl, hb4⟩
    obtain ⟨A5, n5, c5, e5, hB5⟩ := (HO3.out.below hb4).shape
    injection e5 with e5 e6 e7
    subst e5 e6 e7
    have HB5 := Lib.hid hB5
    have HW4 : Hid (Below w.heap.size w w4) := Lib.hid (HW3.out.trans (hb4.mono HW3.out.size))
    have HR4 := Lib.hid (HR.out.go HW4.out)
    have C1 := Lib.hid (sum_any _ _ _ _ w4 HR4.out HF.out (by omega))
    have C2 := Lib.hid (sum_any _ _ _ _ w4 HB5.out HFX.out (by omega))
    have C3 := Lib.hid (chain_any a3 _ _ _ _ w4 HR4.out HF.out (by omega) x0 x1)
    have C4 := Lib.hid (chain_any a3 _ _ _ _ w4 HB5.out HFX.out (by omega) x0 x1)
    clear hB5 hb4 HB5 HR4 HO3 HW3
    generalize fnv start l = s1 at *
    generalize fnv start l2 = s2 at *
    generalize chn a3 l = s3 at *
    generalize chn a3 l2 = s4 at *
    have m1 : (s1 != s2) = true := bne_iff_ne.2 hn1
    have m2 : (s3 != s4) = true := bne_iff_ne.2 hn2
    clear hn1 hn2
    go_wp2_with fail
    refine C1.out.mono ?_
    rintro e w' ⟨rfl, rfl⟩
    go_wp2_with fail
    refine C2.out.mono ?_
    rintro e w' ⟨rfl, rfl⟩
    go_wp2_with fail
    refine C3.out.mono ?_
    rintro e w' ⟨rfl, rfl⟩
    go_wp2_with fail
    refine C4.out.mono ?_
    rintro e w' ⟨rfl, rfl⟩
    go_wp2
    go_ret
    exact ⟨rfl, HW4.out⟩
end Go.Proofs.Ytjchaonbccfjhaa
