/-
  What the maker's Next and Word return: numbers within their bounds. Conditions: the tape holds numbers of 16 bits, and the place is at most 900000.
-/
import Derived.Test.YtlgoiccekgjhnaaEva
namespace Go.Proofs.Ytlgoiccekgjhnaa
open Go.ChangeShapes Go.WideShapes Go.RowKit
set_option linter.unusedVariables false
set_option linter.unusedSimpArgs false
set_option maxHeartbeats 4000000
set_option maxRecDepth 100000

/-- A number below k, and the tape one place on. -/
def NxX (w : World) (b : Nat) (L : List Int) (i : Nat) (k : Int) (e : Ending) (w' : World) : Prop := ∃ x, 0 ≤ x ∧ x < k ∧ e = .returned (.int .i64 x) ∧ TS w' b L (i + 1) ∧ Oth b w w'
theorem next_ex (b i : Nat) (k : Int) (L : List Int) (w : World) (h : TS w b L i) (hf : Fit .u16 L) (hi : i ≤ 1000000) (hk : 0 < k) (hk2 : k ≤ 65536) :
    Calls Try.prog 34 #[.pointer (some ⟨b, 0, none⟩), .int .i64 k] w (NxX w b L i k) := by
  obtain ⟨n, rfl⟩ : ∃ n : Nat, k = n := ⟨k.toNat, by omega⟩
  refine (next_any b i n L w h hf hi (by omega) (by omega)).mono ?_
  rintro e w' ⟨rfl, h1, h2⟩
  exact ⟨_, Int.emod_nonneg _ (by omega), Int.emod_lt_of_pos _ (by omega), rfl, h1, h2⟩
/-- A word, and the tape at most six places on. -/
def WdE (w : World) (b : Nat) (L : List Int) (i : Nat) (e : Ending) (w' : World) : Prop := ∃ (h : Int) (j : Nat), 0 ≤ h ∧ h < 18446744073709551616 ∧ j ≤ i + 6 ∧ e = .returned (.int .u64 h) ∧ TS w' b L j ∧ Oth b w w'
theorem bits_in (op : BinOp) (x y : Int) : 0 ≤ bits op .u64 x y ∧ bits op .u64 x y < 18446744073709551616 := by
  have h1 := bits_lo_u64 op x y
  have h2 := bits_hi_u64 op x y
  omega
theorem word_any (b i : Nat) (L : List Int) (w : World) (h : TS w b L i) (hf : Fit .u16 L) (hi : i ≤ 900000) :
    Calls Try.prog 35 #[.pointer (some ⟨b, 0, none⟩), .int .u32 1] w (WdE w b L i) := by
  have HN := Lib.hid (fun (j : Nat) (k : Int) (W : World) (hT : TS W b L j) (hj : j ≤ i + 10) (h0 : 0 < k) (h1 : k ≤ 65536) => next_ex b j k L W hT hf (by omega) h0 h1)
  have HT0 := Lib.hid h
  have HO0 : Hid (Oth b w w) := Lib.hid Oth.refl
  have HW : Hid (∀ (v : Int) (j : Nat) (W : World), 0 ≤ v → v < 18446744073709551616 → j ≤ i + 6 → TS W b L j → Oth b w W → WdE w b L i (.returned (.int .u64 v)) W) := Lib.hid (fun v j W h0 h1 h2 h3 h4 => ⟨v, j, h0, h1, h2, rfl, h3, h4⟩)
  clear h hf
  go_enter Try.func35, Try.ntmps35
  have HC0 := Lib.hid (HN.out i 3 w HT0.out (by omega) (by omega) (by omega))
  go_wp2_with fail
  refine HC0.out.mono ?_
  rintro e w1 ⟨x0, lo0, hi0, rfl, ht, ho⟩
  have HT1 : Hid (TS w1 b L (i + 1)) := Lib.hid ht
  have HO1 := Lib.hid (HO0.out.trans ho)
  clear ht ho HC0 HT0 HO0
  have HC1 := Lib.hid (HN.out (i + 1) 8 w1 HT1.out (by omega) (by omega) (by omega))
  go_wp2_with fail
  refine HC1.out.mono ?_
  rintro e w2 ⟨x1, lo1, hi1, rfl, ht, ho⟩
  have HT2 : Hid (TS w2 b L (i + 2)) := Lib.hid ht
  have HO2 := Lib.hid (HO1.out.trans ho)
  clear ht ho HC1 HT1 HO1
  have q0 : 0 ≤ x1 / 7 := by omega
  have q1 : x1 / 7 ≤ 1 := by omega
  have s0 : 0 ≤ 1 + x0 - x1 / 7 := by omega
  have s1 : 1 + x0 - x1 / 7 ≤ 3 := by omega
  have HC2 := Lib.hid (HN.out (i + 2) 3 w2 HT2.out (by omega) (by omega) (by omega))
  go_wp2_with fail
  refine HC2.out.mono ?_
  rintro e w3 ⟨x2, lo2, hi2, rfl, ht, ho⟩
  have HT3 : Hid (TS w3 b L (i + 3)) := Lib.hid ht
  have HO3 := Lib.hid (HO2.out.trans ho)
  clear ht ho HC2 HT2 HO2
  have r0 : 0 ≤ (1 + x2) * 72057594037927936 := by omega
  have r1 : (1 + x2) * 72057594037927936 < 18446744073709551616 := by omega
  have HC3 := Lib.hid (HN.out (i + 3) 6 w3 HT3.out (by omega) (by omega) (by omega))
  go_wp2_with fail
  refine HC3.out.mono ?_
  rintro e w4 ⟨x3, lo3, hi3, rfl, ht, ho⟩
  have HT4 : Hid (TS w4 b L (i + 4)) := Lib.hid ht
  have HO4 := Lib.hid (HO3.out.trans ho)
  clear ht ho HC3 HT3 HO3
  have HC4 := Lib.hid (HN.out (i + 4) 20 w4 HT4.out (by omega) (by omega) (by omega))
  go_wp2_with fail
  refine HC4.out.mono ?_
  rintro e w5 ⟨x4, lo4, hi4, rfl, ht, ho⟩
  have HT5 : Hid (TS w5 b L (i + 5)) := Lib.hid ht
  have HO5 := Lib.hid (HO4.out.trans ho)
  clear ht ho HC4 HT4 HO4
  by_cases hz : x4 = 0
  · have hzb : (x4 == 0) = true := by simpa using hz
    clear hz
    have HC5 := Lib.hid (HN.out (i + 5) 64 w5 HT5.out (by omega) (by omega) (by omega))
    go_wp2_with fail
    refine HC5.out.mono ?_
    rintro e w6 ⟨x5, lo5, hi5, rfl, ht, ho⟩
    have HT6 : Hid (TS w6 b L (i + 6)) := Lib.hid ht
    have HO6 := Lib.hid (HO5.out.trans ho)
    clear ht ho HC5 HT5 HO5
    go_wp2
    go_ret
    exact HW.out _ _ _ (bits_in _ _ _).1 (bits_in _ _ _).2 (by omega) HT6.out HO6.out
  · have hzb : (x4 == 0) = false := by simpa using hz
    go_wp2
    go_ret
    exact HW.out _ _ _ (bits_in _ _ _).1 (bits_in _ _ _).2 (by omega) HT5.out HO5.out
end Go.Proofs.Ytlgoiccekgjhnaa
