/-
  The law WirePut as a walk: it returns true and changes nothing that was there. No conditions beyond the types of its arguments.
-/
import Derived.Test.YtjhlglckdbjgcaaWire
import Derived.Deep.RegionHeld3
import Derived.Deep.RegionWith
namespace Go.Proofs.Ytjhlglckdbjgcaa
open Go.ChangeShapes Go.WideShapes Go.ChangeAt Go.RowKit
set_option maxHeartbeats 8000000
set_option maxRecDepth 100000

theorem wirePut_walk (a0 : Option Addr) (len0 cap0 : Nat) (z0 : List Int) (a1 : Int) (a2 : Option Addr) (len2 cap2 : Nat) (z2 : List Int) (w : World) (w0 : IsRow .u8 w a0 len0 cap0 z0) (w1 : (Lit.int .u64 a1).wf = true) (w2 : IsRow .u8 w a2 len2 cap2 z2) :
    Calls Try.prog 3 #[.slice a0 len0 cap0, .int .u64 a1, .slice a2 len2 cap2] w fun e w' => e = .returned (.bool true) ∧ Below w.heap.size w w' := by
  obtain ⟨hB0, hS0⟩ := w0.byt
  obtain ⟨hB2, hS2⟩ := w2.byt
  obtain ⟨x0, x1⟩ := u64_bd w1
  have hl0 := hB0.cap
  have hl2 := hB2.cap
  have hm0 := hB0.small
  have hm2 := hB2.small
  unfold maxLen at hm0 hm2
  generalize z0.take len0 = l at *
  generalize z2.take len2 = s at *
  have HB0 := Lib.hid hB0
  have HB2 := Lib.hid hB2
  clear hB0 hB2 hS0 hS2 w0 w1 w2 z0 z2
  by_cases hbig : 100 < len0 ∨ 300 < len2
  · have HA := Lib.hid (awake_any w)
    by_cases hb0 : 100 < len0
    · clear hbig
      go_enter Try.func3, Try.ntmps3
      go_wp2_with fail
      refine HA.out.mono ?_
      rintro e w' ⟨rfl, hb⟩
      go_wp2
      go_ret
      exact ⟨rfl, hb⟩
    · have hb2 : 300 < len2 := by omega
      clear hbig
      go_enter Try.func3, Try.ntmps3
      go_wp2_with fail
      refine HA.out.mono ?_
      rintro e w' ⟨rfl, hb⟩
      go_wp2
      go_ret
      exact ⟨rfl, hb⟩
  · have hb0 : ¬ 100 < len0 := by omega
    have hb2 : ¬ 300 < len2 := by omega
    clear hbig
    have hcv0 := text_run HB0.out
    go_enter Try.func3, Try.ntmps3
    go_wp2_with fail
    refine (putUint_any _ _ _ _ _ w HB0.out (by omega) x0 x1).mono ?_
    rintro e w1 ⟨v1, rfl, ho1, hb1⟩
    have HO1 := Lib.hid ho1
    clear ho1
    go_wp2_with fail
    refine (putBytes_any _ _ _ _ _ _ _ _ w1 (HB0.out.go hb1) (HB2.out.go hb1) (by omega) (by omega)).mono ?_
    rintro e w2 ⟨v2, rfl, ho2, hb2⟩
    obtain ⟨A1, n1, c1, rfl, hB1⟩ := HO1.out.shape
    obtain ⟨A2, n2, c2, rfl, hB2⟩ := ho2.shape
    have HC0 := Lib.hid ((HB0.out.go hb1).go hb2)
    have HC1 := Lib.hid (hB1.go hb2)
    have HC2 := Lib.hid hB2
    have HP := Lib.hid ((HB2.out.go hb1).go hb2)
    have hbw := hb1.trans (hb2.mono hb1.size)
    clear HO1 ho2 hB1 hB2 hb1 hb2 HB0 HB2 hcv0
    go_wp2
    obtain ⟨T0, hT0⟩ : ∃ T, strOfNums l = T := ⟨_, rfl⟩
    obtain ⟨T1, hT1⟩ : ∃ T, strOfNums (l ++ enc a1.toNat) = T := ⟨_, rfl⟩
    obtain ⟨T2, hT2⟩ : ∃ T, strOfNums (l ++ encB s) = T := ⟨_, rfl⟩
    rw [hT0]
    have HT0 := Lib.hid hT0
    have HT1 := Lib.hid hT1
    have HT2 := Lib.hid hT2
    clear hT0 hT1 hT2
    go_region_with (first
      | (go_at_call 10
         refine (awake_any _).mono ?_
         rintro e w3 ⟨rfl, hb3⟩
         have K0 := Lib.hid ((HC0.out.keep (w' := w2.drew) fun _ _ => rfl).go hb3)
         have K1 := Lib.hid ((HC1.out.keep (w' := w2.drew) fun _ _ => rfl).go hb3)
         have K2 := Lib.hid ((HC2.out.keep (w' := w2.drew) fun _ _ => rfl).go hb3)
         have KP := Lib.hid ((HP.out.keep (w' := w2.drew) fun _ _ => rfl).go hb3)
         have g1 := text_as K1.out HT1
         clear HC0 HC1 HC2 HP)
      | (go_at_call 13
         refine (putUintR_any _ _ _ _ _ w3 K0.out (by omega) x0 x1).mono ?_
         rintro e w4 ⟨v4, rfl, ho4, hb4⟩
         obtain ⟨A4, n4, c4, rfl, hB4⟩ := ho4.shape
         have J0 := Lib.hid (K0.out.go hb4)
         have J2 := Lib.hid (K2.out.go hb4)
         have JP := Lib.hid (KP.out.go hb4)
         have g2 := text_as (K1.out.go hb4) HT1
         have g3 := text_as hB4 HT1
         have g4 := text_as (K2.out.go hb4) HT2
         clear ho4 hB4 K0 K2 KP K1 g1)
      | (go_at_call 14
         refine (putBytesR_any _ _ _ _ _ _ _ _ w4 J0.out JP.out (by omega) (by omega)).mono ?_
         rintro e w5 ⟨v5, rfl, ho5, hb5⟩
         obtain ⟨A5, n5, c5, rfl, hB5⟩ := ho5.shape
         have g5 := text_as (J2.out.go hb5) HT2
         have g6 := text_as hB5 HT2
         have g7 := text_as (J0.out.go hb5) HT0
         clear ho5 hB5 J0 J2 JP g2 g3 g4))
    all_goals
      go_wp2
      go_ret
      refine ⟨rfl, ?_⟩
      have s2 := hbw.size
      have s3 := hb3.size
      have s4 := hb4.size
      have h3 : Below w.heap.size w w3 := (hbw.drew).trans (hb3.mono s2)
      have h4 := h3.trans (hb4.mono h3.size)
      exact h4.trans (hb5.mono h4.size)
end Go.Proofs.Ytjhlglckdbjgcaa
