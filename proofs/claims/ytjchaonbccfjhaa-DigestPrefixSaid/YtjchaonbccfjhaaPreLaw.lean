/-
  The law DigestPrefix as a walk: it returns true and changes nothing that was there. No conditions beyond the types of the arguments.
-/
import Derived.Test.YtjchaonbccfjhaaVer
namespace Go.Proofs.Ytjchaonbccfjhaa
open Go.ChangeShapes Go.WideShapes Go.ChangeAt Go.RowKit
set_option maxHeartbeats 1000000
set_option maxRecDepth 100000

theorem verR_same (l : List Int) : verR l l = (-1, 0) := by unfold verR; rw [if_pos rfl, ver_same]

theorem digestPrefix_walk (a0 : Option Addr) (len0 cap0 : Nat) (rs : List Rec) (a1 : Int) (w : World) (w0 : IsRecs w a0 len0 cap0 rs) (w1 : (Lit.int .u8 a1).wf = true) :
    Calls Try.prog 6 #[.slice a0 len0 cap0, .int .u8 a1] w fun e w' => e = .returned (.bool true) ∧ Below w.heap.size w w' := by
  have hA : Arg w a0 len0 cap0 rs := ⟨w0.1, w0.2⟩
  obtain ⟨x0, x1⟩ := byte_bd w1
  have hcap := hA.row.cap
  have hsm := hA.row.small
  unfold maxLen at hsm
  have HG := Lib.hid hA
  have HF := Lib.hid (few_any _ _ _ _ w hA)
  have HA := Lib.hid (awake_any w)
  have HL := Lib.hid hA.len
  obtain ⟨t, rfl⟩ : ∃ t : Nat, a1 = t := ⟨a1.toNat, by omega⟩
  clear hA w0 w1
  go_enter Try.func6, Try.ntmps6
  go_wp2_with fail
  refine HF.out.mono ?_
  rintro e w' ⟨b, rfl, rfl, hb⟩
  clear HF
  cases b with
  | false =>
    clear hb
    go_wp2_with fail
    refine HA.out.mono ?_
    rintro e w' ⟨rfl, hb⟩
    go_wp2
    go_ret
    exact ⟨rfl, hb⟩
  | true =>
    obtain ⟨hn, hs⟩ := hb rfl
    have HS : Hid (Short 1000 rs) := Lib.hid fun r hr => by have := hs r hr; omega
    clear hb hs HA
    have hk : t % (len0 + 1) ≤ len0 := by have := Nat.mod_lt t (show len0 + 1 > 0 by omega); omega
    obtain ⟨j, hj⟩ : ∃ j, t % (len0 + 1) = j := ⟨_, rfl⟩
    rw [hj] at hk
    have hj1 : (t : Int).tmod ((len0 : Int) + 1) = (j : Int) := by
      rw [← hj, Int.tmod_eq_emod_of_nonneg (by omega)]; rfl
    have hj2 : (t : Int) % ((len0 : Int) + 1) = (j : Int) := by rw [← hj]; rfl
    clear hj
    go_wp2_with fail
    refine (digests_any _ _ _ _ w HG.out (by omega) HS.out).mono ?_
    rintro e w2 ⟨v2, rfl, ho2, hb2⟩
    clear hj1 hj2
    have HG2 := Lib.hid (HG.out.go hb2)
    have HO2 := Lib.hid ho2
    have HW2 := Lib.hid hb2
    clear ho2 hb2 HG
    go_wp2_with fail
    refine (digests_any a0 j cap0 (rs.take j) w2 (HG2.out.take hk) (by omega) (fun r hr => HS.out r (List.mem_of_mem_take hr))).mono ?_
    rintro e w3 ⟨v3, rfl, ho3, hb3⟩
    rw [bs_take, ← dig_take] at ho3
    obtain ⟨A2, n2, c2, rfl, hB2⟩ := (HO2.out.below hb3).shape
    obtain ⟨A3, n3, c3, rfl, hB3⟩ := ho3.shape
    have HG3 := Lib.hid (HG2.out.go hb3)
    have HW3 : Hid (Below w.heap.size w w3) := Lib.hid (HW2.out.trans (hb3.mono HW2.out.size))
    have HB2 := Lib.hid hB2
    have HB3 := Lib.hid hB3
    have hl2 : n2 = len0 := by have := hB2.len; rw [iv_len, dig_len, bs_len, HL.out] at this; exact this.symm
    have hc2 := hB2.cap
    have hs2 := hB2.small
    unfold maxLen at hs2
    clear HG2 HO2 HW2 ho3 hb3 hB2 hB3
    subst hl2
    have HV := Lib.hid (verify_any a0 n2 cap0 rs A2 n2 c2 _ w3 HG3.out (by omega) HS.out HB2.out)
    rw [verR_same] at HV
    clear HG3
    go_wp2_with fail
    refine HV.out.mono ?_
    rintro e w4 ⟨rfl, hb4⟩
    have HW4 : Hid (Below w.heap.size w w4) := Lib.hid (HW3.out.trans (hb4.mono HW3.out.size))
    have HB24 := Lib.hid (HB2.out.go hb4)
    have HB34 := Lib.hid (HB3.out.go hb4)
    clear HV hb4 HB2 HB3 HW3
    go_wp2_with fail
    refine (awake_any w4).mono ?_
    rintro e w5 ⟨rfl, hb5⟩
    have HT := (HB24.out.go hb5).take hk
    rw [iv_take] at HT
    have HE := Lib.hid (same_any A2 j c2 _ A3 n3 c3 w5 HT (HB34.out.go hb5))
    have HW5 : Hid (Below w.heap.size w w5) := Lib.hid (HW4.out.trans (hb5.mono HW4.out.size))
    clear HT HB24 HB34 hb5 HW4
    go_wp2_with fail
    refine HE.out.mono ?_
    rintro e w6 ⟨rfl, hb6⟩
    go_wp2
    go_ret
    exact ⟨rfl, HW5.out.trans (hb6.mono HW5.out.size)⟩
end Go.Proofs.Ytjchaonbccfjhaa
