/-
  The walk of the law HandleParse: it returns true for every text and every word, and only adds new blocks to memory. Conditions: the listed package variables lie in memory as the program lays them.
-/
import Derived.Test.YtbmajggpfojnkaaDoorParseRef
import Derived.Test.YtbmajggpfojnkaaDoorFormatLaw
import Derived.Deep.QuietTactic
import Derived.BigQuiet
namespace Go.Proofs.YtbmajggpfojnkaaDoor
open Go.ChangeShapes Go.WideShapes Go.ChangeAt Go.RowKit
set_option maxRecDepth 100000
set_option maxHeartbeats 4000000
theorem parse_walk (s : ByteArray) (x p c q : Int) (h0 : 0 ≤ x) (h1 : x < 18446744073709551616) (p0 : 0 ≤ p) (p1 : p ≤ 255) (c0 : 0 ≤ c) (c1 : c ≤ 255) (q0 : 0 ≤ q) (q1 : q ≤ 255) (hs : s.size ≤ maxLen) (w : World) (hE : Env w) :
    Calls Tryd.prog 8 #[.string s, .int .u64 x, .int .u8 p, .int .u8 c, .int .u8 q] w fun e w' => e = .returned (.bool true) ∧ Below w.heap.size w w' := by
  unfold maxLen at hs
  by_cases hbig : 60 < s.size
  · go_enter Tryd.func8, Tryd.ntmps8
    go_wp2_with (first | (go_at_call 11; refine (awake_any _).mono ?_; rintro e w' ⟨rfl, rfl⟩) | fail)
    go_ret
    exact ⟨rfl, Below.refl _ _⟩
  · have hs60 : s.size ≤ 1000 := by omega
    have HP := Lib.hid (fun w hE => parse_any s hs60 w hE)
    have HR := Lib.hid (fun w => parseR_any s hs60 w)
    generalize parseW s.data.toList = pw at *
    generalize parseE s.data.toList = pe at *
    have HF := Lib.hid (formatR_any x h0 h1)
    have hl := fmtP_len (x % 16777216).toNat (x / 16777216 % 4294967296).toNat (x / 72057594037927936).toNat (by omega) (by omega) (by omega)
    have hl1 : 1 ≤ (fmtP (x % 16777216).toNat (x / 16777216 % 4294967296).toNat (x / 72057594037927936).toNat).length := by simp [fmtP]; omega
    obtain ⟨T, hT, t1, t2⟩ : ∃ T : ByteArray, T = ⟨(fmtP (x % 16777216).toNat (x / 16777216 % 4294967296).toNat (x / 72057594037927936).toNat).toArray⟩ ∧ 1 ≤ T.size ∧ T.size ≤ 32 :=
      ⟨_, rfl, by show 1 ≤ (fmtP _ _ _).toArray.size; simpa using hl1, by show (fmtP _ _ _).toArray.size ≤ 32; simpa using hl⟩
    rw [← hT] at HF
    clear hT hl hl1
    have m0 : 0 ≤ p % (T.size : Int) := Int.emod_nonneg _ (by omega)
    have m1 : p % (T.size : Int) < (T.size : Int) := Int.emod_lt_of_pos _ (by omega)
    obtain ⟨k, hk⟩ : ∃ k : Nat, p % (T.size : Int) = (k : Int) := ⟨(p % (T.size : Int)).toNat, by omega⟩
    have k1 : k < T.size := by omega
    clear m0 m1
    obtain ⟨E, he, e4⟩ : ∃ E, Utf8.encode (c % 128) = E ∧ E.size ≤ 4 := ⟨_, rfl, encode_size_le _⟩
    have n1 : ¬ 9223372036854775807 < k + E.size := by omega
    have n2 : ¬ 9223372036854775807 < k + E.size + (T.size - (k + 1)) := by omega
    have n3 : ¬ 9223372036854775807 < k + E.size + (T.size - k) := by omega
    have n4 : ¬ 9223372036854775807 < k + (T.size - (k + 1)) := by omega
    rcases (show q % 3 = 0 ∨ q % 3 = 1 ∨ q % 3 = 2 by omega) with hq | hq | hq
    · have j0 : (q % 3 == 0) = true := by rw [hq]; rfl
      clear hq
      go_enter Tryd.func8, Tryd.ntmps8
      go_wp2_with fail
      refine (HP.out _ hE).mono ?_
      rintro e w1 ⟨rfl, b1⟩
      have hE1 := hE.below b1
      go_wp2_with fail
      refine (HR.out _).mono ?_
      rintro e w2 ⟨rfl, b2⟩
      have hE2 := hE1.below b2
      go_wp2_with fail
      refine (HF.out _).mono ?_
      rintro e w' ⟨rfl, rfl⟩
      go_wp2_with fail
      simp only [hk]
      clear hk
      go_region
      obtain ⟨t', ht', hz⟩ : ∃ t' : ByteArray, T.extract 0 k ++ E ++ T.extract (k + 1) T.size = t' ∧ t'.size ≤ 1000 := ⟨_, rfl, by simp; omega⟩
      have HP2 := Lib.hid (fun w hE => parse_any t' hz w hE)
      have HR2 := Lib.hid (fun w => parseR_any t' hz w)
      generalize parseW t'.data.toList = pw2 at *
      generalize parseE t'.data.toList = pe2 at *
      have b3 : Below w2.heap.size w2 w2.drew := below_drewN (Below.refl _ _) 1
      have hE3 := hE2.below b3
      go_wp2_with fail
      try rw [ht']
      refine (HP2.out _ hE3).mono ?_
      rintro e w3 ⟨rfl, b4⟩
      go_wp2_with fail
      try rw [ht']
      refine (HR2.out _).mono ?_
      rintro e w4 ⟨rfl, b5⟩
      have bb := below_chain (below_chain (below_chain (below_chain b1 b2) b3) b4) b5
      clear b1 b2 b3 b4 b5 hE1 hE2 hE3 ht' hz n1 n2 n3 n4 he
      go_wp2_with fail
      refine (awake_any _).mono ?_
      rintro e w' ⟨rfl, rfl⟩
      go_wp2
      go_ret
      exact ⟨rfl, bb⟩
    · have j0 : (q % 3 == 0) = false := by rw [hq]; rfl
      have j1 : (q % 3 == 1) = true := by rw [hq]; rfl
      clear hq
      go_enter Tryd.func8, Tryd.ntmps8
      go_wp2_with fail
      refine (HP.out _ hE).mono ?_
      rintro e w1 ⟨rfl, b1⟩
      have hE1 := hE.below b1
      go_wp2_with fail
      refine (HR.out _).mono ?_
      rintro e w2 ⟨rfl, b2⟩
      have hE2 := hE1.below b2
      go_wp2_with fail
      refine (HF.out _).mono ?_
      rintro e w' ⟨rfl, rfl⟩
      go_wp2_with fail
      simp only [hk]
      clear hk
      go_region
      obtain ⟨t', ht', hz⟩ : ∃ t' : ByteArray, T.extract 0 k ++ E ++ T.extract k T.size = t' ∧ t'.size ≤ 1000 := ⟨_, rfl, by simp; omega⟩
      have HP2 := Lib.hid (fun w hE => parse_any t' hz w hE)
      have HR2 := Lib.hid (fun w => parseR_any t' hz w)
      generalize parseW t'.data.toList = pw2 at *
      generalize parseE t'.data.toList = pe2 at *
      have b3 : Below w2.heap.size w2 w2.drew := below_drewN (Below.refl _ _) 1
      have hE3 := hE2.below b3
      go_wp2_with fail
      try rw [ht']
      refine (HP2.out _ hE3).mono ?_
      rintro e w3 ⟨rfl, b4⟩
      go_wp2_with fail
      try rw [ht']
      refine (HR2.out _).mono ?_
      rintro e w4 ⟨rfl, b5⟩
      have bb := below_chain (below_chain (below_chain (below_chain b1 b2) b3) b4) b5
      clear b1 b2 b3 b4 b5 hE1 hE2 hE3 ht' hz n1 n2 n3 n4 he
      go_wp2_with fail
      refine (awake_any _).mono ?_
      rintro e w' ⟨rfl, rfl⟩
      go_wp2
      go_ret
      exact ⟨rfl, bb⟩
    · have j0 : (q % 3 == 0) = false := by rw [hq]; rfl
      have j1 : (q % 3 == 1) = false := by rw [hq]; rfl
      have j2 : (q % 3 == 2) = true := by rw [hq]; rfl
      clear hq
      go_enter Tryd.func8, Tryd.ntmps8
      go_wp2_with fail
      refine (HP.out _ hE).mono ?_
      rintro e w1 ⟨rfl, b1⟩
      have hE1 := hE.below b1
      go_wp2_with fail
      refine (HR.out _).mono ?_
      rintro e w2 ⟨rfl, b2⟩
      have hE2 := hE1.below b2
      go_wp2_with fail
      refine (HF.out _).mono ?_
      rintro e w' ⟨rfl, rfl⟩
      go_wp2_with fail
      simp only [hk]
      clear hk
      go_region
      obtain ⟨t', ht', hz⟩ : ∃ t' : ByteArray, T.extract 0 k ++ T.extract (k + 1) T.size = t' ∧ t'.size ≤ 1000 := ⟨_, rfl, by simp; omega⟩
      have HP2 := Lib.hid (fun w hE => parse_any t' hz w hE)
      have HR2 := Lib.hid (fun w => parseR_any t' hz w)
      generalize parseW t'.data.toList = pw2 at *
      generalize parseE t'.data.toList = pe2 at *
      have b3 : Below w2.heap.size w2 w2.drew := below_drewN (Below.refl _ _) 1
      have hE3 := hE2.below b3
      go_wp2_with fail
      try rw [ht']
      refine (HP2.out _ hE3).mono ?_
      rintro e w3 ⟨rfl, b4⟩
      go_wp2_with fail
      try rw [ht']
      refine (HR2.out _).mono ?_
      rintro e w4 ⟨rfl, b5⟩
      have bb := below_chain (below_chain (below_chain (below_chain b1 b2) b3) b4) b5
      clear b1 b2 b3 b4 b5 hE1 hE2 hE3 ht' hz n1 n2 n3 n4 he
      go_wp2_with fail
      refine (awake_any _).mono ?_
      rintro e w' ⟨rfl, rfl⟩
      go_wp2
      go_ret
      exact ⟨rfl, bb⟩
theorem handleParse_walk (s : ByteArray) (x p c q : Int) (hs : s.size ≤ maxLen) (hx : (Lit.int .u64 x).wf = true) (hp : (Lit.int .u8 p).wf = true) (hc : (Lit.int .u8 c).wf = true) (hq : (Lit.int .u8 q).wf = true) (w : World) (hL : laidMetH Tryd.prog laid5 w) :
    Calls Tryd.prog 8 #[.string s, .int .u64 x, .int .u8 p, .int .u8 c, .int .u8 q] w fun e w' => e = .returned (.bool true) ∧ Below w.heap.size w w' := by
  have bx := bounds_u64 hx
  have bp := bounds_u8 hp
  have bc := bounds_u8 hc
  have bq := bounds_u8 hq
  exact parse_walk s x p c q bx.1 (by omega) bp.1 bp.2 bc.1 bc.2 bq.1 bq.2 hs w (env_of hL)
end Go.Proofs.YtbmajggpfojnkaaDoor
