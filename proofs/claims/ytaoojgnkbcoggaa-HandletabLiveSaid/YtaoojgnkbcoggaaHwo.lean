/-
  Contract of the maker of words: whatever the numbers of its tape, it returns some word of 64 bits. No conditions beyond those that each lemma states.
-/
import Derived.Test.YtaoojgnkbcoggaaTap
import Derived.Test.YtaoojgnkbcoggaaHwd
namespace Go.Proofs.Ytaoojgnkbcoggaa
open Go.ChangeShapes Go.WideShapes Go.RowKit
set_option linter.unusedVariables false
set_option linter.unusedSimpArgs false
set_option maxHeartbeats 8000000
set_option maxRecDepth 100000

theorem u64_bits (op : BinOp) (x y : Int) : U64 (bits op .u64 x y) := by
  have := Go.bounds_u64 (wf_bits op .u64 x y)
  unfold U64
  omega
/-- Some word. -/
def SomeW (b : Nat) (w : World) (e : Ending) (w' : World) : Prop := ∃ h, e = .returned (.int .u64 h) ∧ U64 h ∧ Oth b w w'
theorem wordW_any (b : Nat) (L : List Int) (f : Int) (w : World) (hT : TS w b L 0) (hF : Fit .u16 L) (hf : 1 ≤ f ∧ f ≤ 4294967295) :
    Calls Try.prog 33 #[.pointer (some ⟨b, 0, none⟩), .int .u32 f] w (SomeW b w) := by
  have HN := Lib.hid (fun (i k : Nat) (W : World) (h : TS W b L i) (hi : i ≤ 10) (hk : 0 < k) (hk2 : k ≤ 100) => next_any b i k L W h hF (by omega) hk (by omega))
  have HT := Lib.hid hT
  clear hT hF
  unfold SomeW
  go_enter Try.func33, Try.ntmps33
  go_wp2_with fail
  refine (HN.out 0 3 w HT.out (by omega) (by omega) (by omega)).mono ?_
  rintro e w1 ⟨rfl, hT1, hO1⟩
  have HT1 := Lib.hid hT1
  have HO1 := Lib.hid hO1
  obtain ⟨n1, hn1⟩ : ∃ n1, num L 0 % ((3 : Nat) : Int) = n1 := ⟨_, rfl⟩
  have b1 : 0 ≤ n1 ∧ n1 < 3 := by omega
  rw [hn1]
  clear hT1 hO1 hn1
  go_wp2_with fail
  refine (HN.out 1 8 w1 HT1.out (by omega) (by omega) (by omega)).mono ?_
  rintro e w2 ⟨rfl, hT2, hO2⟩
  have HT2 := Lib.hid hT2
  have HO2 := Lib.hid (HO1.out.trans hO2)
  obtain ⟨n2, hn2⟩ : ∃ n2, num L 1 % ((8 : Nat) : Int) = n2 := ⟨_, rfl⟩
  have b2 : 0 ≤ n2 ∧ n2 < 8 := by omega
  have b2' : 0 ≤ n2 / 7 ∧ n2 / 7 ≤ 1 := by omega
  rw [hn2]
  clear hT2 hO2 hn2
  go_wp2_with fail
  refine (HN.out 2 3 w2 HT2.out (by omega) (by omega) (by omega)).mono ?_
  rintro e w3 ⟨rfl, hT3, hO3⟩
  have HT3 := Lib.hid hT3
  have HO3 := Lib.hid (HO2.out.trans hO3)
  obtain ⟨n3, hn3⟩ : ∃ n3, num L 2 % ((3 : Nat) : Int) = n3 := ⟨_, rfl⟩
  have b3 : 0 ≤ n3 ∧ n3 < 3 := by omega
  rw [hn3]
  clear hT3 hO3 hn3
  go_wp2_with fail
  refine (HN.out 3 6 w3 HT3.out (by omega) (by omega) (by omega)).mono ?_
  rintro e w4 ⟨rfl, hT4, hO4⟩
  have HT4 := Lib.hid hT4
  have HO4 := Lib.hid (HO3.out.trans hO4)
  obtain ⟨n4, hn4⟩ : ∃ n4, num L 3 % ((6 : Nat) : Int) = n4 := ⟨_, rfl⟩
  have b4 : 0 ≤ n4 ∧ n4 < 6 := by omega
  rw [hn4]
  clear hT4 hO4 hn4
  go_wp2_with fail
  refine (HN.out 4 20 w4 HT4.out (by omega) (by omega) (by omega)).mono ?_
  rintro e w5 ⟨rfl, hT5, hO5⟩
  have HT5 := Lib.hid hT5
  have HO5 := Lib.hid (HO4.out.trans hO5)
  obtain ⟨n5, hn5⟩ : ∃ n5, num L 4 % ((20 : Nat) : Int) = n5 := ⟨_, rfl⟩
  have b5 : 0 ≤ n5 ∧ n5 < 20 := by omega
  rw [hn5]
  clear hT5 hO5 hn5
  by_cases h5 : n5 = 0
  · subst h5
    go_wp2_with fail
    refine (HN.out 5 64 w5 HT5.out (by omega) (by omega) (by omega)).mono ?_
    rintro e w6 ⟨rfl, hT6, hO6⟩
    have HO6 := Lib.hid (HO5.out.trans hO6)
    obtain ⟨n6, hn6⟩ : ∃ n6, num L 5 % ((64 : Nat) : Int) = n6 := ⟨_, rfl⟩
    have b6 : 0 ≤ n6 ∧ n6 < 64 := by omega
    rw [hn6]
    clear hT6 hO6 hn6
    go_wp2
    go_ret
    exact ⟨_, rfl, u64_bits _ _ _, HO6.out⟩
  · have h5' : (n5 == 0) = false := by simpa using h5
    go_wp2
    go_ret
    exact ⟨_, rfl, u64_bits _ _ _, HO5.out⟩
end Go.Proofs.Ytaoojgnkbcoggaa
