/-
  Contracts of the registry's comparison and copy of types, and of the function that compares with one type. Conditions: at most a million fields to copy.
-/
import Derived.Test.YtgddlpabgeeflaaSty
import Derived.Test.YtgddlpabgeeflaaKow
namespace Go.Proofs.Ytgddlpabgeeflaa
open Go.ChangeShapes Go.WideShapes Go.RowKit
set_option linter.unusedVariables false
set_option maxHeartbeats 4000000
set_option maxRecDepth 100000

theorem equalF_any (A A' : Option Addr) (m m' c c' : Nat) (l l' : List (Int × Int)) (w : World) (h : Exs w w.heap.size A m c l) (h' : Exs w w.heap.size A' m' c' l') :
    Calls Try.prog 32 #[.slice A m c, .slice A' m' c'] w (Says w (.bool (decide (l = l')))) := by
  have HX := Lib.hid h
  have HX' := Lib.hid h'
  have hcap := h.cap
  have hsm := h.small
  have hcap' := h'.cap
  have hsm' := h'.small
  have HL := Lib.hid (And.intro h.len h'.len)
  unfold maxLen at hsm hsm'
  obtain ⟨eb, heb⟩ : ∃ eb, decide (l = l') = eb := ⟨_, rfl⟩
  rw [heb]
  have HEL : Hid (eb = decide (l = l')) := Lib.hid heb.symm
  clear h h' heb
  by_cases hm : m = m'
  · subst hm
    go_enter Try.func32, Try.ntmps32
    go_wp2
    go_loopw [13] (fun kv wr => ∃ (j : Nat), j ≤ m ∧ kv = .int .i64 j ∧ Hid (l.take j = l'.take j ∧ Below w.heap.size w wr)) (fun kv _ => m - (intOf kv).toNat)
    case atStart => exact ⟨0, by omega, rfl, Lib.hid ⟨rfl, Below.refl _ _⟩⟩
    case round =>
      obtain ⟨j, hj, rfl, hh⟩ := hrel
      have HJ := Lib.hid hh.out.1
      have HB := Lib.hid hh.out.2
      clear hh
      by_cases hjm : j < m
      · have hj1 : (j : Int) < (m : Int) := by omega
        obtain ⟨b, o, u, v, hu, rfl, hb, g0, g1, gu⟩ := (HX.out.below HB.out).at_ hjm
        obtain ⟨b', o', u', v', hu', rfl, hb', g0', g1', gu'⟩ := (HX'.out.below HB.out).at_ hjm
        by_cases he : (u, v) = (u', v')
        · obtain ⟨rfl, rfl⟩ : u = u' ∧ v = v' := by injection he; exact ⟨by assumption, by assumption⟩
          have HN := Lib.hid (take_next HJ.out hu hu')
          clear hu hu' he gu gu' hb hb'
          go_wp2
          go_quiet (fail)
          have HBQ := Lib.hid (below_drewN (Below.refl wr.heap.size wr) nq)
          have HB2 := Lib.hid (Below.then HB.out HBQ.out (Nat.le_refl _))
          clear HB HBQ g0 g1 g0' g1'
          go_wp2
          go_roundw
          case rel => exact ⟨j + 1, by omega, by go_num, Lib.hid ⟨HN.out, HB2.out⟩⟩
          case measure => simp [intOf]; omega
        · have HV : Hid (eb = false) := Lib.hid (by
            rw [HEL.out, decide_eq_false_iff_not]
            rintro rfl
            rw [hu] at hu'
            exact he (Option.some.inj hu'))
          clear hu hu' gu gu' hb hb'
          by_cases hue : u = u'
          · subst hue
            have hve : ¬ v = v' := fun e => he (by rw [e])
            clear he
            go_wp2
            go_quiet (fail)
            go_wp2
            go_ret
            exact ⟨by rw [HV.out]; rfl, Below.then HB.out (below_drewN (Below.refl wr.heap.size wr) nq) (Nat.le_refl _)⟩
          · clear he
            go_wp2
            go_quiet (fail)
            go_wp2
            go_ret
            exact ⟨by rw [HV.out]; rfl, Below.then HB.out (below_drewN (Below.refl wr.heap.size wr) nq) (Nat.le_refl _)⟩
      · obtain rfl : j = m := by omega
        have hjj : ¬ (j : Int) < (j : Int) := by omega
        have hll : l = l' := by
          have := HJ.out
          rwa [List.take_of_length_le (by rw [HL.out.1]; exact Nat.le_refl _), List.take_of_length_le (by rw [HL.out.2]; exact Nat.le_refl _)] at this
        have HV : Hid (eb = true) := Lib.hid (by rw [HEL.out, hll]; simp)
        clear hll
        go_wp2
        go_ret
        exact ⟨by rw [HV.out]; rfl, HB.out⟩
  · have HV : Hid (eb = false) := Lib.hid (by
      rw [HEL.out, decide_eq_false_iff_not]
      rintro rfl
      exact hm (by rw [← HL.out.1, ← HL.out.2]))
    have d2 : ((m : Int) != (m' : Int)) = true := by rw [bne_iff_ne]; omega
    go_enter Try.func32, Try.ntmps32
    go_wp2
    go_ret
    exact ⟨by rw [HV.out]; rfl, Below.refl _ _⟩

theorem equal_any (n n' : Int) (A A' : Option Addr) (m m' c c' : Nat) (l l' : List (Int × Int)) (w : World) (h : Exs w w.heap.size A m c l) (h' : Exs w w.heap.size A' m' c' l') :
    Calls Try.prog 24 #[.agg #[.int .i64 n, .slice A m c], .agg #[.int .i64 n', .slice A' m' c']] w (Says w (.bool (eqT n n' l l'))) := by
  have hb0 : Below w.heap.size w (w.alloc (.cells #[.int .i64 n, .slice A m c] 35)) := (Below.refl _ _).alloc (Nat.le_refl _) _
  have hs0 : (w.alloc (.cells #[.int .i64 n, .slice A m c] 35)).heap.size = w.heap.size + 1 := by simp
  have hb1 : Below (w.alloc (.cells #[.int .i64 n, .slice A m c] 35)).heap.size (w.alloc (.cells #[.int .i64 n, .slice A m c] 35)) ((w.alloc (.cells #[.int .i64 n, .slice A m c] 35)).alloc (.cells #[.int .i64 n', .slice A' m' c'] 35)) := (Below.refl _ _).alloc (Nat.le_refl _) _
  have HT1 := Lib.hid ((TyB.new (w := w) (n := n) (A := A) (m := m) (c := c)).go hb1)
  have hr := TyB.new (w := w.alloc (.cells #[.int .i64 n, .slice A m c] 35)) (n := n') (A := A') (m := m') (c := c')
  rw [hs0] at hr
  have HU1 := Lib.hid hr
  have HB1 := Lib.hid (Below.then hb0 hb1 (Nat.le_refl _))
  have HQ := Lib.hid (equalF_any A A' m m' c c' l l' _ (h.go HB1.out) (h'.go HB1.out))
  have c0 := HT1.out.cell0
  have c1 := HT1.out.cell1
  have d0 := HU1.out.cell0
  have d1 := HU1.out.cell1
  have HE : Hid (eqT n n' l l' = (decide (n = n') && decide (l = l'))) := Lib.hid (by unfold eqT; simp)
  generalize eqT n n' l l' = eb at *
  generalize decide (l = l') = lb at *
  clear h h' hb0 hb1 hr
  by_cases hn : n = n'
  · subst hn
    have HV : Hid (eb = lb) := Lib.hid (by rw [HE.out]; simp)
    clear HE
    go_enter Try.func24, Try.ntmps24
    go_wp2_with fail
    refine HQ.out.mono ?_
    rintro e w2 ⟨rfl, hb2⟩
    have HB2 := Lib.hid (Below.then HB1.out hb2 (by simp))
    clear HQ hb2
    go_wp2
    go_ret
    exact ⟨by rw [HV.out]; first | rfl | simp, HB2.out⟩
  · have HV : Hid (eb = false) := Lib.hid (by rw [HE.out, decide_eq_false hn]; rfl)
    have hd : (n == n') = false := by simpa using hn
    clear HE HQ
    go_enter Try.func24, Try.ntmps24
    go_wp2
    go_ret
    exact ⟨by rw [HV.out]; rfl, HB1.out⟩

/-- What the copy of a slice of fields says: a row of the call's own. -/
def ClE (w : World) (l : List (Int × Int)) (e : Ending) (w' : World) : Prop := ∃ v, e = .returned v ∧ OwnE 45 w' w.heap.size v l ∧ Below w.heap.size w w'
theorem cloneF_any (A : Option Addr) (n c : Nat) (l : List (Int × Int)) (w : World) (h : Exs w w.heap.size A n c l) (hn : n ≤ 1000000) :
    Calls Try.prog 33 #[.slice A n c] w (ClE w l) := by
  obtain ⟨i0, hi, hz0, hz1, hz2⟩ := info_parts infoFd
  have HX := Lib.hid h
  cases A with
  | none =>
    obtain rfl : c = 0 := h.nil rfl
    obtain rfl : n = 0 := by have := h.cap; omega
    obtain rfl : l = [] := List.eq_nil_of_length_eq_zero h.len
    have hq : ∀ W : World, (binOp .eql 33 (.slice none 0 0) (.slice none 0 0)).run Try.prog W = .ok (.bool true) W := fun W => Lib.run_eql_slice_nil W _ _ none 0 0 0 0 Try.underlying33
    clear h
    go_enter Try.func33, Try.ntmps33
    go_wp2
    go_ret
    exact ⟨_, rfl, OwnE.nil _ _ _, Below.refl _ _⟩
  | some a =>
    have hq : ∀ W : World, (binOp .eql 33 (.slice (some a) n c) (.slice none 0 0)).run Try.prog W = .ok (.bool false) W := fun W => Lib.run_eql_slice_nil W _ _ (some a) n c 0 0 Try.underlying33
    have HO : Hid (OwnE 45 (w.alloc (.cells #[] 45)) w.heap.size (.slice (some ⟨w.heap.size, 0, none⟩) 0 0) []) := Lib.hid ⟨World.ownsRow_made w #[] 0 (Nat.le_refl _) (Nat.zero_le _) rfl, Fits.nil⟩
    clear h
    go_enter Try.func33, Try.ntmps33
    go_wp2_with (at_builtin; go_must (refine wpList_appE _ rfl (.tmp 5) (.tmp 6) 33 rfl Try.underlying33 hi hz0 rfl hz1 (by omega) HO.out rfl (HX.out.alloc _) rfl (by simp; omega) (by simp) ?_); intro v2 w2 ho2 hb2 hg2)
    go_ret
    exact ⟨_, rfl, ho2, ((Below.refl _ _).alloc (Nat.le_refl _) _).trans hb2⟩
end Go.Proofs.Ytgddlpabgeeflaa
