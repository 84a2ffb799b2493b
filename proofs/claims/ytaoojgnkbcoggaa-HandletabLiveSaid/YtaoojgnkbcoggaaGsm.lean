/-
  Contracts of the definition's comparison of lists of integers and of the law's first generation. No conditions.
-/
import Derived.Test.YtaoojgnkbcoggaaPcm
namespace Go.Proofs.Ytaoojgnkbcoggaa
open Go.ChangeShapes Go.WideShapes Go.RowKit
set_option linter.unusedVariables false
set_option maxHeartbeats 4000000
set_option maxRecDepth 100000

theorem sameInts_any (A A' : Option Addr) (m m' c c' : Nat) (l l' : List Int) (w : World) (h : Kws int1 w w.heap.size A m c l) (h' : Kws int1 w w.heap.size A' m' c' l') :
    Calls Try.prog 32 #[.slice A m c, .slice A' m' c'] w fun e w' => e = .returned (.bool (decide (l = l'))) ∧ Below w.heap.size w w' := by
  have HX := Lib.hid h
  have HX' := Lib.hid h'
  have hcap := h.cap
  have hsm := h.small
  have hcap' := h'.cap
  have hsm' := h'.small
  have HL := Lib.hid (And.intro h.len h'.len)
  unfold maxLen at hsm hsm'
  obtain ⟨eb, heb⟩ : ∃ eb, decide (l = l') = eb := ⟨_, rfl⟩
  rw [heb]
  have HEL : Hid (eb = decide (l = l')) := Lib.hid heb.symm
  clear h h' heb
  by_cases hm : m = m'
  · subst hm
    go_enter Try.func32, Try.ntmps32
    go_wp2
    go_loopw [5] (fun kv wr => ∃ (j : Nat), j ≤ m ∧ kv = .int .i64 j ∧ Hid (l.take j = l'.take j ∧ Below w.heap.size w wr)) (fun kv _ => m - (intOf kv).toNat)
    case atStart => exact ⟨0, by omega, rfl, Lib.hid ⟨rfl, Below.refl _ _⟩⟩
    case round =>
      obtain ⟨j, hj, rfl, hh⟩ := hrel
      have HJ := Lib.hid hh.out.1
      have HB := Lib.hid hh.out.2
      clear hh
      by_cases hjm : j < m
      · have hj1 : (j : Int) < (m : Int) := by omega
        obtain ⟨b, o, u, hu, rfl, hb, g0⟩ := (HX.out.below HB.out).int_at hjm
        obtain ⟨b', o', u', hu', rfl, hb', g0'⟩ := (HX'.out.below HB.out).int_at hjm
        by_cases he : u = u'
        · subst he
          have HN := Lib.hid (take_next HJ.out hu hu')
          clear hu hu' hb hb'
          go_wp2
          go_quiet (fail)
          have HBQ := Lib.hid (below_drewN (Below.refl wr.heap.size wr) nq)
          have HB2 := Lib.hid (Below.then HB.out HBQ.out (Nat.le_refl _))
          clear HB HBQ g0 g0'
          go_wp2
          go_roundw
          case rel => exact ⟨j + 1, by omega, by go_num, Lib.hid ⟨HN.out, HB2.out⟩⟩
          case measure => simp [intOf]; omega
        · have HV : Hid (eb = false) := Lib.hid (by
            rw [HEL.out, decide_eq_false_iff_not]
            rintro rfl
            rw [hu] at hu'
            exact he (Option.some.inj hu'))
          have heb : (u != u') = true := by simpa using he
          clear hu hu' hb hb'
          go_wp2
          go_quiet (fail)
          go_wp2
          go_ret
          exact ⟨by rw [HV.out]; rfl, Below.then HB.out (below_drewN (Below.refl wr.heap.size wr) nq) (Nat.le_refl _)⟩
      · obtain rfl : j = m := by omega
        have hjj : ¬ (j : Int) < (j : Int) := by omega
        have HV : Hid (eb = true) := Lib.hid (by
          have := HJ.out
          rw [List.take_of_length_le (by rw [HL.out.1]; exact Nat.le_refl _), List.take_of_length_le (by rw [HL.out.2]; exact Nat.le_refl _)] at this
          rw [HEL.out, this]
          simp)
        go_wp2
        go_ret
        exact ⟨by rw [HV.out]; rfl, HB.out⟩
  · have hm1 : ((m : Int) != (m' : Int)) = true := by simpa using (show ¬ (m : Int) = (m' : Int) by omega)
    have HV : Hid (eb = false) := Lib.hid (by
      rw [HEL.out, decide_eq_false_iff_not]
      rintro rfl
      exact hm (HL.out.1.symm.trans HL.out.2))
    go_enter Try.func32, Try.ntmps32
    go_wp2
    go_ret
    exact ⟨by rw [HV.out]; rfl, Below.refl _ _⟩
/-- The first generation that the law chooses. -/
def fstV (x : Int) : Int := if x % 3 = 0 then 4294967295 - x / 3 % 4 else 1 + x
theorem fstV_in {x : Int} (h : 0 ≤ x ∧ x ≤ 255) : 1 ≤ fstV x ∧ fstV x ≤ 4294967295 := by
  unfold fstV
  split <;> omega
end Go.Proofs.Ytaoojgnkbcoggaa
