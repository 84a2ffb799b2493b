/-
  The law GenerationOnce as a walk: called with any arguments of its types it returns true. No conditions.
-/
import Derived.Test.YtnaoffpemnkmmaaGpl
import Derived.Test.YtnaoffpemnkmmaaGmp
import Derived.Test.YtnaoffpemnkmmaaGsm
import Derived.Test.YtnaoffpemnkmmaaDuo
namespace Go.Proofs.Ytnaoffpemnkmmaa
open Go.ChangeShapes Go.WideShapes Go.RowKit
set_option linter.unusedVariables false
set_option linter.unusedSimpArgs false
set_option maxHeartbeats 8000000
set_option maxRecDepth 100000

/-- The law's state: the slots, and the map of the pairs that were issued. -/
def Og (w0 : World) (N M p : Nat) (F : Int) (n : Nat) (w : World) : Prop := Below w0.heap.size w0 w ∧ ∃ s : Gs, Twin Sls w0.heap.size N M w p s ∧ s.first = F ∧ Seen w M n s.Iss
theorem generationOnce_walk (a0 a1 : Int) (a2 : Option Addr) (len2 cap2 : Nat) (w : World) (w0 : (Lit.int .u8 a0).wf = true) (w1 : (Lit.int .u8 a1).wf = true) (w2 : Duo w w.heap.size a2 len2 cap2) :
    Calls Try.prog 5 #[.int .u8 a0, .int .u8 a1, .slice a2 len2 cap2] w fun e w' => e = .returned (.bool true) ∧ Below w.heap.size w w' := by
  have b0 := byte_bd w0
  have b1 := byte_bd w1
  have hF := fstV_in b1
  have hm := Int.emod_nonneg a0 (show (8 : Int) ≠ 0 by omega)
  have hl := Int.emod_lt_of_pos a0 (show (0 : Int) < 8 by omega)
  have HC := Lib.hid pc_landed
  have HFS : Hid (∀ W, Calls Try.prog 9 #[.int .u8 a1] W fun e w' => e = .returned (.int .i64 (fstV a1)) ∧ W = w') := Lib.hid (fun W => first_any a1 W b1)
  have HN := Lib.hid (Solo.new HC.out (a0 % 8) (fstV a1) w (by omega) hF)
  have HD := Lib.hid w2
  have hcap := w2.cap
  have hsm := w2.small
  unfold maxLen at hsm
  obtain ⟨N, hNN⟩ : ∃ N, (a0 % 8).toNat = N := ⟨_, rfl⟩
  rw [hNN] at HN
  have hN7 : N ≤ 7 := by omega
  have HNE : Hid ((N : Int) = a0 % 8) := Lib.hid (by omega)
  have hmm := @run_makeMap Try.prog
  generalize fstV a1 = F at *
  clear w0 w1 w2 hNN
  go_enter Try.func5, Try.ntmps5
  go_wp2_with fail
  refine (HFS.out w).mono ?_
  rintro e wx ⟨rfl, rfl⟩
  go_wp2_with fail
  refine HN.out.mono ?_
  rintro e wa ⟨p, rfl, hS, hba⟩
  have HS0 : Hid (Og w N wa.heap.size p F 0 (wa.alloc (.map #[] 0))) := Lib.hid ⟨hba.alloc hba.size _, _, Twin.made HC.out hS _, rfl, Seen.made wa⟩
  have HZW := Lib.hid hba.size
  clear hS hba HN
  go_wp2
  go_loopw [10] (fun kv wr => ∃ i : Nat, i ≤ len2 ∧ i ≤ 60 ∧ kv = .int .i64 i ∧ Hid (Og w N wa.heap.size p F i wr)) (fun kv _ => 60 - (intOf kv).toNat)
  case atStart => exact ⟨0, by omega, by omega, rfl, HS0⟩
  case round =>
    obtain ⟨i, hi, hi60, rfl, hh⟩ := hrel
    by_cases hin : i < len2
    · have hi1 : (i : Int) < (len2 : Int) := by omega
      by_cases h60 : i < 60
      · have hi2 : (i : Int) < 60 := by omega
        obtain ⟨hB, s, hS, hfs, hsn⟩ := hh.out
        have HB := Lib.hid hB
        have HS := Lib.hid hS
        have HSN := Lib.hid hsn
        have HFI := Lib.hid hfs
        obtain ⟨b, o, x0, x1, rfl, hb, e0, e1, hx0, hx1⟩ := (HD.out.below HB.out).cells i hin
        clear hh hB hS hsn hfs hb
        by_cases hx : x0 % 2 = 0
        · have hxb : (x0 % 2 == 0) = true := by simpa using hx
          have HI := Lib.hid (HS.out.issue HC.out x1 (by omega))
          by_cases hf : s.free = []
          · rw [show s.issV x1 = (0, 0, 17) from if_pos hf, show s.issN x1 = s from if_pos hf] at HI
            clear hf
            go_wp2_with fail
            refine HI.out.mono ?_
            rintro e wb ⟨rfl, hS2, hb2, hk2⟩
            have HX : Hid (Og w N wa.heap.size p F (i + 1) wb) := Lib.hid ⟨HB.out.trans hb2, s, hS2, HFI.out, (HSN.out.kept hk2 (fun _ _ h => h)).more (by omega)⟩
            clear hS2 hb2 hk2 HI
            go_wp2
            go_roundw
            case rel => exact ⟨i + 1, by omega, by omega, by go_num, HX⟩
            case measure => simp [intOf]; omega
          · obtain ⟨j, g, hv, hj, hg1, hg2, hnew, hnow, hold⟩ := Gs.fresh (d := x1) HS.out.wf hf
            rw [hv] at HI
            have hjN : ¬ (j : Int) ≥ a0 % 8 := by have := HNE.out; omega
            have hgF : ¬ g < F := by have := HFI.out; omega
            have hgM : ¬ g > 4294967295 := by omega
            have HR := Lib.hid (And.intro hnew (And.intro hnow hold))
            have HF1 : Hid ((s.issN x1).first = F) := Lib.hid (by rw [Gs.first_iss]; exact HFI.out)
            have hgl : -9223372036854775808 ≤ g := by omega
            clear hf hv hnew hnow hold hg1
            go_wp2_with fail
            refine HI.out.mono ?_
            rintro e wb ⟨rfl, hS2, hb2, hk2⟩
            have hseen := HSN.out.kept hk2 (fun _ _ h => h)
            have hlk := hseen.look HR.out.1 (by omega) (by omega)
            obtain ⟨wc, hup, hsc, hgc⟩ := hseen.store (a := (j : Int)) (b := g) (by omega) (by omega) (by omega) HR.out.2.2 HR.out.2.1
            have HX : Hid (Og w N wa.heap.size p F (i + 1) wc) := Lib.hid ⟨(HB.out.trans hb2).grown hgc (by have := hS2.bd; exact this) (fun r e => by cases e; exact HZW.out), _, hS2.stored HC.out hgc, HF1.out, hsc⟩
            clear hS2 hb2 hk2 HI hsc hgc hseen
            go_wp2_with fail
            refine (HFS.out wb).mono ?_
            rintro e wx ⟨rfl, rfl⟩
            go_wp2
            go_roundw
            case rel => exact ⟨i + 1, by omega, by omega, by go_num, HX⟩
            case measure => simp [intOf]; omega
        · have hxb : (x0 % 2 == 0) = false := by simpa using hx
          have HE := Lib.hid (HS.out.end_ HC.out (x1 % 8))
          go_wp2_with fail
          refine HE.out.mono ?_
          rintro e wb ⟨rfl, hS2, hb2, hk2⟩
          have HX : Hid (Og w N wa.heap.size p F (i + 1) wb) := Lib.hid ⟨HB.out.trans hb2, _, hS2, Gs.first_end.trans HFI.out, (HSN.out.kept hk2 (fun _ _ h => Gs.iss_end h)).more (by omega)⟩
          clear hS2 hb2 hk2 HE
          go_wp2
          go_roundw
          case rel => exact ⟨i + 1, by omega, by omega, by go_num, HX⟩
          case measure => simp [intOf]; omega
      · have hi2 : ¬ (i : Int) < 60 := by omega
        go_wp2_with fail
        refine (awake12_any HC.out wr).mono ?_
        rintro e w4 ⟨rfl, hb4⟩
        go_wp2
        go_ret
        exact ⟨rfl, Below.then hh.out.1 hb4 (Nat.le_refl _)⟩
    · have hi1 : ¬ (i : Int) < (len2 : Int) := by omega
      go_wp2_with fail
      refine (awake12_any HC.out wr).mono ?_
      rintro e w4 ⟨rfl, hb4⟩
      go_wp2
      go_ret
      exact ⟨rfl, Below.then hh.out.1 hb4 (Nat.le_refl _)⟩
end Go.Proofs.Ytnaoffpemnkmmaa
