/-
  The law GenerationFull as a walk: called with any arguments of its types it returns true. No conditions.
-/
import Derived.Test.YtnaoffpemnkmmaaGpl
import Derived.Test.YtnaoffpemnkmmaaGso
import Derived.Test.YtnaoffpemnkmmaaGsm
import Derived.Test.YtnaoffpemnkmmaaDuo
namespace Go.Proofs.Ytnaoffpemnkmmaa
open Go.ChangeShapes Go.WideShapes Go.RowKit
set_option linter.unusedVariables false
set_option linter.unusedSimpArgs false
set_option maxHeartbeats 8000000
set_option maxRecDepth 100000

theorem count_next {l : List Bool} {i : Nat} {x : Bool} (h : l[i]? = some x) : (l.take (i + 1)).count true = (l.take i).count true + (if x = true then 1 else 0) := by
  rw [show l.take (i + 1) = l.take i ++ [x] by rw [List.take_add_one, h]; rfl, List.count_append]
  cases x <;> rfl
theorem Gs.of_nat {s : Gs} {i : Nat} {x : Bool} (h : s.live[i]? = some x) : (s.of (i : Int)).2 = x := by
  unfold Gs.of
  rw [Int.toNat_natCast, h]
  cases x <;> simp
theorem Gs.issN_gone {s : Gs} {d : Int} : (s.issN d).gone = s.gone := by
  unfold Gs.issN
  split <;> rfl
theorem generationFull_walk (a0 a1 : Int) (a2 : Option Addr) (len2 cap2 : Nat) (w : World) (w0 : (Lit.int .u8 a0).wf = true) (w1 : (Lit.int .u8 a1).wf = true) (w2 : Duo w w.heap.size a2 len2 cap2) :
    Calls Try.prog 6 #[.int .u8 a0, .int .u8 a1, .slice a2 len2 cap2] w fun e w' => e = .returned (.bool true) ∧ Below w.heap.size w w' := by
  have b0 := byte_bd w0
  have b1 := byte_bd w1
  have hF := fstV_in b1
  have hm := Int.emod_nonneg a0 (show (8 : Int) ≠ 0 by omega)
  have hl := Int.emod_lt_of_pos a0 (show (0 : Int) < 8 by omega)
  have HC := Lib.hid pc_landed
  have HFS := Lib.hid (first_any a1 w b1)
  have HN := Lib.hid (Solo.new HC.out (a0 % 8) (fstV a1) w (by omega) hF)
  have HD := Lib.hid w2
  have hcap := w2.cap
  have hsm := w2.small
  unfold maxLen at hsm
  obtain ⟨N, hNN⟩ : ∃ N, (a0 % 8).toNat = N := ⟨_, rfl⟩
  rw [hNN] at HN
  have hN7 : N ≤ 7 := by omega
  have HNE : Hid ((N : Int) = a0 % 8) := Lib.hid (by omega)
  generalize fstV a1 = F at *
  clear w0 w1 w2 hNN
  go_enter Try.func6, Try.ntmps6
  go_wp2_with fail
  refine HFS.out.mono ?_
  rintro e wx ⟨rfl, rfl⟩
  go_wp2_with fail
  refine HN.out.mono ?_
  rintro e wa ⟨p, rfl, hS, hba⟩
  have HS0 : Hid (Below w.heap.size w wa ∧ ∃ s, Solo Sls w.heap.size N wa p s) := Lib.hid ⟨hba, _, hS⟩
  clear hS hba HN HFS
  go_wp2
  go_loopw [9] (fun kv wr => ∃ i : Nat, i ≤ len2 ∧ i ≤ 40 ∧ kv = .int .i64 i ∧ Hid (Below w.heap.size w wr ∧ ∃ s, Solo Sls w.heap.size N wr p s)) (fun kv _ => 40 - (intOf kv).toNat)
  case atStart => exact ⟨0, by omega, by omega, rfl, HS0⟩
  case round =>
    obtain ⟨i, hi, hi40, rfl, hh⟩ := hrel
    by_cases hin : i < len2
    · have hi1 : (i : Int) < (len2 : Int) := by omega
      by_cases h40 : i < 40
      · have hi2 : (i : Int) < 40 := by omega
        obtain ⟨hB, s, hS⟩ := hh.out
        have HB1 : Hid (Below w.heap.size w wr ∧ Solo Sls w.heap.size N wr p s) := Lib.hid ⟨hB, hS⟩
        have HWF := Lib.hid hS.wf
        clear hh hB hS
        go_wp2
        obtain ⟨wo, rfl⟩ : ∃ W, W = wr := ⟨_, rfl⟩
        go_loopw [10, 11] (fun ct kv wi => ∃ k : Nat, k ≤ N ∧ kv = .int .i64 k ∧ (∃ l : Nat, l ≤ k ∧ ct = .int .i64 l ∧ Hid (l = (s.live.take k).count true)) ∧ Hid (Below w.heap.size w wi ∧ Solo Sls w.heap.size N wi p s)) (fun _ kv _ => N - (intOf kv).toNat)
        case atStart => exact ⟨0, by omega, rfl, ⟨0, by omega, rfl, Lib.hid (by simp)⟩, HB1⟩
        case round =>
          obtain ⟨k, hk, rfl, ⟨l, hlk, rfl, hl2⟩, hh⟩ := hrel
          have HBr := Lib.hid hh.out.1
          have HZ := Lib.hid (hh.out.2.size HC.out)
          by_cases hkn : k < N
          · have hk1 : (k : Int) < (N : Int) := by omega
            have hkl : k < s.live.length := by rw [HWF.out.ll]; exact hkn
            obtain ⟨x, hx⟩ : ∃ x, s.live[k]? = some x := ⟨_, List.getElem?_eq_getElem hkl⟩
            have HCN := Lib.hid (count_next hx)
            have HOF := Lib.hid (Gs.of_nat hx)
            clear hh hx hkl
            go_wp2_with fail
            refine HZ.out.mono ?_
            rintro e wc ⟨rfl, hSc, hbc⟩
            have HL := Lib.hid (hSc.live HC.out (k : Int))
            rw [HOF.out] at HL
            generalize (s.of (k : Int)).1 = g at *
            have HBc := Lib.hid (HBr.out.trans hbc)
            clear hSc hbc HZ
            go_wp2_with fail
            refine HL.out.mono ?_
            rintro e wd ⟨rfl, hSd, hbd⟩
            have HX : Hid (Below w.heap.size w wd ∧ Solo Sls w.heap.size N wd p s) := Lib.hid ⟨HBc.out.trans hbd, hSd⟩
            clear hSd hbd HL
            cases x
            · go_wp2
              go_roundw
              case rel => exact ⟨k + 1, by omega, by go_num, ⟨l, by omega, rfl, Lib.hid (by rw [HCN.out, ← hl2.out]; simp)⟩, HX⟩
              case measure => simp [intOf]; omega
            · go_wp2
              go_roundw
              case rel => exact ⟨k + 1, by omega, by go_num, ⟨l + 1, by omega, by go_num, Lib.hid (by rw [HCN.out, ← hl2.out]; simp)⟩, HX⟩
              case measure => simp [intOf]; omega
          · obtain rfl : k = N := by omega
            have hk1 : ¬ (k : Int) < (k : Int) := by omega
            have HLV : Hid (l = s.lv) := Lib.hid (by rw [hl2.out, List.take_of_length_le (by rw [HWF.out.ll]; omega)]; rfl)
            have hct := HWF.out.ct
            have hg0 := HWF.out.g0
            rw [← HLV.out] at hct
            have HCT := Lib.hid hct
            have hgs : s.gone ≤ 7 := by omega
            clear hh hct
            go_wp2_with fail
            refine HZ.out.mono ?_
            rintro e wc ⟨rfl, hSc, hbc⟩
            have HR := Lib.hid (hSc.retired HC.out)
            have HBc := Lib.hid (HBr.out.trans hbc)
            clear hSc hbc HZ
            go_wp2_with fail
            refine HR.out.mono ?_
            rintro e wd ⟨rfl, hSd, hbd⟩
            have HP := Lib.hid (hSd.pool HC.out)
            have HBd := Lib.hid (HBc.out.trans hbd)
            clear hSd hbd HR
            go_wp2_with fail
            refine HP.out.mono ?_
            rintro e we ⟨⟨A7, n7, c7, rfl, hn7⟩, hSe, hbe⟩
            have HN7 := Lib.hid hn7
            have HBe := Lib.hid (HBd.out.trans hbe)
            have HSe := Lib.hid hSe
            have hn7b : n7 ≤ 7 := by have := HCT.out; omega
            have hsum : ((l : Int) + s.gone + (n7 : Int) != a0 % 8) = false := by
              have h1 := HCT.out
              have h2 := HNE.out
              simpa using (show (l : Int) + s.gone + (n7 : Int) = a0 % 8 by omega)
            obtain ⟨b, o, x0, x1, rfl, hb, e0, e1, hx0, hx1⟩ := (HD.out.below HBe.out).cells i hin
            clear hn7 hbe hSe HP hb
            by_cases hx : x0 % 3 = 0
            · have HE := Lib.hid (HSe.out.end_ HC.out (x1 % 8))
              have hxb : (x0 % 3 == 0) = true := by simpa using hx
              go_wp2_with fail
              refine HE.out.mono ?_
              rintro e wf ⟨rfl, hSf, hbf⟩
              have HX : Hid (Below w.heap.size w wf ∧ ∃ s, Solo Sls w.heap.size k wf p s) := Lib.hid ⟨HBe.out.trans hbf, _, hSf⟩
              clear hSf hbf HE
              go_wp2
              go_roundw
              case rel => exact ⟨i + 1, by omega, by omega, by go_num, HX⟩
              case measure => simp [intOf]; omega
            · have hxb : (x0 % 3 == 0) = false := by simpa using hx
              have HE := Lib.hid (HSe.out.issue HC.out x1 (by omega))
              by_cases hf : s.free = []
              · have hv : s.issV x1 = (0, 0, 17) := if_pos hf
                rw [hv] at HE
                have hcm : ((l : Int) + s.gone == a0 % 8) = true := by
                  have h1 := HCT.out
                  have h2 := HNE.out
                  rw [hf] at h1
                  simpa using (show (l : Int) + s.gone = a0 % 8 by simp at h1; omega)
                clear hf hv
                go_wp2_with fail
                refine HE.out.mono ?_
                rintro e wf ⟨rfl, hSf, hbf⟩
                have HR := Lib.hid (hSf.retired HC.out)
                rw [Gs.issN_gone] at HR
                have HBf := Lib.hid (HBe.out.trans hbf)
                clear hSf hbf HE
                go_wp2_with fail
                refine HR.out.mono ?_
                rintro e wg ⟨rfl, hSg, hbg⟩
                have HX : Hid (Below w.heap.size w wg ∧ ∃ s, Solo Sls w.heap.size k wg p s) := Lib.hid ⟨HBf.out.trans hbg, _, hSg⟩
                clear hSg hbg HR
                go_wp2
                go_roundw
                case rel => exact ⟨i + 1, by omega, by omega, by go_num, HX⟩
                case measure => simp [intOf]; omega
              · obtain ⟨v1, v2, hv⟩ : ∃ v1 v2, s.issV x1 = (v1, v2, 0) := ⟨_, _, if_neg hf⟩
                rw [hv] at HE
                have hcm : ((l : Int) + s.gone == a0 % 8) = false := by
                  have h1 := HCT.out
                  have h2 := HNE.out
                  have h3 : 0 < s.free.length := List.length_pos_iff.2 hf
                  simpa using (show ¬ (l : Int) + s.gone = a0 % 8 by omega)
                clear hf hv
                go_wp2_with fail
                refine HE.out.mono ?_
                rintro e wf ⟨rfl, hSf, hbf⟩
                have HR := Lib.hid (hSf.retired HC.out)
                rw [Gs.issN_gone] at HR
                have HBf := Lib.hid (HBe.out.trans hbf)
                clear hSf hbf HE
                go_wp2_with fail
                refine HR.out.mono ?_
                rintro e wg ⟨rfl, hSg, hbg⟩
                have HX : Hid (Below w.heap.size w wg ∧ ∃ s, Solo Sls w.heap.size k wg p s) := Lib.hid ⟨HBf.out.trans hbg, _, hSg⟩
                clear hSg hbg HR
                go_wp2
                go_roundw
                case rel => exact ⟨i + 1, by omega, by omega, by go_num, HX⟩
                case measure => simp [intOf]; omega
      · have hi2 : ¬ (i : Int) < 40 := by omega
        go_wp2_with fail
        refine (awake12_any HC.out wr).mono ?_
        rintro e w4 ⟨rfl, hb4⟩
        go_wp2
        go_ret
        exact ⟨rfl, Below.then hh.out.1 hb4 (Nat.le_refl _)⟩
    · have hi1 : ¬ (i : Int) < (len2 : Int) := by omega
      go_wp2_with fail
      refine (awake12_any HC.out wr).mono ?_
      rintro e w4 ⟨rfl, hb4⟩
      go_wp2
      go_ret
      exact ⟨rfl, Below.then hh.out.1 hb4 (Nat.le_refl _)⟩
end Go.Proofs.Ytnaoffpemnkmmaa
