/-
  The law GenerationPlays as a walk: called with any arguments of its types it returns true. No conditions.
-/
import Derived.Test.YtnaoffpemnkmmaaGpl
import Derived.Test.YtnaoffpemnkmmaaGal
import Derived.Test.YtnaoffpemnkmmaaGst2
import Derived.Test.YtnaoffpemnkmmaaGsm
import Derived.Test.YtnaoffpemnkmmaaDuo
namespace Go.Proofs.Ytnaoffpemnkmmaa
open Go.ChangeShapes Go.WideShapes Go.RowKit
set_option linter.unusedVariables false
set_option linter.unusedSimpArgs false
set_option maxHeartbeats 8000000
set_option maxRecDepth 100000

theorem ns_ok {n first : Int} (h : 0 ≤ n ∧ n ≤ 4096) (h' : 1 ≤ first ∧ first ≤ 4294967295) : nsE n first = 0 := if_neg (by omega)
theorem rc01 {n g : Nat} : rc (fun _ => 0) n 1 g ≠ 2 := by
  by_cases h : g < n
  · rw [rc_old h]
    omega
  · rw [rc_new (by omega)]
    omega
/-- What stands behind the two makings. -/
theorem Duet.made {Sl : World → (Nat → Nat) → Nat → Nat → Gs → Prop} (C : Pc Sl) {w wa wb : World} {p m N : Nat} {s : Gs} (h1 : Sl wa (rc (fun _ => 0) w.heap.size 1) 1 p s) (b1 : Below w.heap.size w wa) (h2 : Mgs wb (rc (rc (fun _ => 0) w.heap.size 1) wa.heap.size 2) 2 m s) (b2 : Below wa.heap.size wa wb) (hW : s.Wf N) :
    Duet Sl w.heap.size N wb p m s ∧ Below w.heap.size w wb := by
  have z1 := b1.size
  have z2 := b2.size
  exact ⟨⟨⟨_, C.kept h1 (j := 2) (Kept.ofBelow b2) (by omega) (fun g hg => rc_old hg), h2, fun g hg => by rw [rc_old (by omega), rc_old hg]⟩, hW, by omega⟩, Below.then b1 b2 (Nat.le_refl _)⟩
theorem generationPlays_walk (a0 a1 : Int) (a2 : Option Addr) (len2 cap2 : Nat) (w : World) (w0 : (Lit.int .u8 a0).wf = true) (w1 : (Lit.int .u8 a1).wf = true) (w2 : Duo w w.heap.size a2 len2 cap2) :
    Calls Try.prog 3 #[.int .u8 a0, .int .u8 a1, .slice a2 len2 cap2] w fun e w' => e = .returned (.bool true) ∧ Below w.heap.size w w' := by
  have b0 := byte_bd w0
  have b1 := byte_bd w1
  have hF := fstV_in b1
  have hm := Int.emod_nonneg a0 (show (8 : Int) ≠ 0 by omega)
  have hl := Int.emod_lt_of_pos a0 (show (0 : Int) < 8 by omega)
  have HC := Lib.hid pc_landed
  have HFS : Hid (∀ W, Calls Try.prog 9 #[.int .u8 a1] W fun e w' => e = .returned (.int .i64 (fstV a1)) ∧ W = w') := Lib.hid (fun W => first_any a1 W b1)
  have HN := Lib.hid (HC.out.new (a0 % 8) (fstV a1) w (fun _ => 0) 1 (fun _ _ => by omega))
  have HNS := Lib.hid (ns_ok (n := a0 % 8) (first := fstV a1) (by omega) hF)
  have HW0 := Lib.hid (Gs.wf_new (n := (a0 % 8).toNat) hF)
  have HN4 : Hid ((a0 % 8).toNat ≤ 4096) := Lib.hid (by omega)
  have HD := Lib.hid w2
  have hcap := w2.cap
  have hsm := w2.small
  unfold maxLen at hsm
  generalize hFF : fstV a1 = F at *
  obtain ⟨N, hNN⟩ : ∃ N, (a0 % 8).toNat = N := ⟨_, rfl⟩
  rw [hNN] at HW0 HN4 HN
  have HNE := Lib.hid hNN
  clear w0 w1 w2 hFF hNN
  go_enter Try.func3, Try.ntmps3
  go_wp2_with fail
  refine (HFS.out w).mono ?_
  rintro e wx ⟨rfl, rfl⟩
  go_wp2_with fail
  refine HN.out.mono ?_
  rintro e wa (⟨h1, _⟩ | ⟨_, p, rfl, hp, hS, hba⟩)
  · have := HNS.out
    omega
  have HS := Lib.hid hS
  have HBA := Lib.hid hba
  have HM := Lib.hid (newM_any (a0 % 8) F wa (rc (fun _ => 0) w.heap.size 1) 2 (fun g _ => rc01))
  clear HN hS hba
  go_wp2_with fail
  refine (HFS.out wa).mono ?_
  rintro e wx ⟨rfl, rfl⟩
  go_wp2_with fail
  refine HM.out.mono ?_
  rintro e wb (⟨h1, _⟩ | ⟨_, m, rfl, hm2, hM, hbb⟩)
  · have := HNS.out
    omega
  rw [HNE.out] at hM
  have HDU := Lib.hid (Duet.made HC.out HS.out HBA.out hM hbb HW0.out)
  clear HM hM hbb HFS
  go_wp2
  go_loopw [11] (fun kv wr => ∃ i : Nat, i ≤ len2 ∧ i ≤ 40 ∧ kv = .int .i64 i ∧ Hid (Below w.heap.size w wr ∧ ∃ s, Duet Sls w.heap.size N wr p m s)) (fun kv _ => 40 - (intOf kv).toNat)
  case atStart => exact ⟨0, by omega, by omega, rfl, Lib.hid ⟨HDU.out.2, _, HDU.out.1⟩⟩
  case round =>
    obtain ⟨i, hi, hi40, rfl, hh⟩ := hrel
    by_cases hin : i < len2
    · have hi1 : (i : Int) < (len2 : Int) := by omega
      by_cases h40 : i < 40
      · have hi2 : (i : Int) < 40 := by omega
        obtain ⟨hB, s, hD⟩ := hh.out
        obtain ⟨b, o, x0, x1, rfl, hb, e0, e1, hx0, hx1⟩ := (HD.out.below hB).cells i hin
        have HB := Lib.hid hB
        have HS1 := Lib.hid (step12_any HC.out w.heap.size N wr p m s x0 x1 hD HN4.out hx0 hx1)
        clear hh hB hD
        go_wp2_with fail
        refine HS1.out.mono ?_
        rintro e wc ⟨rfl, hbc, s', hD'⟩
        obtain ⟨c, hS', hM', _⟩ := hD'.ex
        have HA := Lib.hid (alike12_any HC.out wc c c 1 p 2 m N s' hS' hM' hD'.wf HN4.out)
        have HDC := Lib.hid hD'
        have HBC := Lib.hid (HB.out.trans hbc)
        clear hbc hD' hS' hM' HS1
        go_wp2_with fail
        refine HA.out.mono ?_
        rintro e wd ⟨rfl, hbd⟩
        have HX : Hid (Below w.heap.size w wd ∧ ∃ s, Duet Sls w.heap.size N wd p m s) := Lib.hid ⟨Below.then HBC.out hbd (Nat.le_refl _), s', HDC.out.go HC.out hbd⟩
        clear hbd HA
        go_wp2
        go_roundw
        case rel => exact ⟨i + 1, by omega, by omega, by go_num, HX⟩
        case measure => simp [intOf]; omega
      · have hi2 : ¬ (i : Int) < 40 := by omega
        go_wp2_with fail
        refine (awake12_any HC.out wr).mono ?_
        rintro e w4 ⟨rfl, hb4⟩
        go_wp2
        go_ret
        exact ⟨rfl, Below.then hh.out.1 hb4 (Nat.le_refl _)⟩
    · have hi1 : ¬ (i : Int) < (len2 : Int) := by omega
      go_wp2_with fail
      refine (awake12_any HC.out wr).mono ?_
      rintro e w4 ⟨rfl, hb4⟩
      go_wp2
      go_ret
      exact ⟨rfl, Below.then hh.out.1 hb4 (Nat.le_refl _)⟩
end Go.Proofs.Ytnaoffpemnkmmaa
