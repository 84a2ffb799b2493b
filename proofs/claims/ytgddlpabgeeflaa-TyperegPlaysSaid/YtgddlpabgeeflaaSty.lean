/-
  Contract of the reference's comparison of types. No conditions.
-/
import Derived.Test.YtgddlpabgeeflaaLaR
import Derived.Test.YtgddlpabgeeflaaTyp
import Derived.Deep.QuietTactic
import Derived.BigQuiet
namespace Go.Proofs.Ytgddlpabgeeflaa
open Go.ChangeShapes Go.WideShapes Go.RowKit
set_option linter.unusedVariables false
set_option maxHeartbeats 4000000
set_option maxRecDepth 100000

/-- Whether two types are equal. -/
def eqT (n n' : Int) (l l' : List (Int × Int)) : Bool := decide (n = n' ∧ l = l')
theorem eqT_self (n : Int) (l : List (Int × Int)) : eqT n n l l = true := decide_eq_true ⟨rfl, rfl⟩
theorem take_next {l l' : List (Int × Int)} {j : Nat} {x : Int × Int} (h : l.take j = l'.take j) (hx : l[j]? = some x) (hx' : l'[j]? = some x) : l.take (j + 1) = l'.take (j + 1) := by
  rw [List.take_add_one, List.take_add_one, h, hx, hx']
theorem sameType_any (n n' : Int) (A A' : Option Addr) (m m' c c' : Nat) (l l' : List (Int × Int)) (w : World) (h : Exs w w.heap.size A m c l) (h' : Exs w w.heap.size A' m' c' l') :
    Calls Try.prog 18 #[.agg #[.int .i64 n, .slice A m c], .agg #[.int .i64 n', .slice A' m' c']] w (Says w (.bool (eqT n n' l l'))) := by
  have hb0 : Below w.heap.size w (w.alloc (.cells #[.int .i64 n, .slice A m c] 35)) := (Below.refl _ _).alloc (Nat.le_refl _) _
  have hs0 : (w.alloc (.cells #[.int .i64 n, .slice A m c] 35)).heap.size = w.heap.size + 1 := by simp
  have hb1 : Below (w.alloc (.cells #[.int .i64 n, .slice A m c] 35)).heap.size (w.alloc (.cells #[.int .i64 n, .slice A m c] 35)) ((w.alloc (.cells #[.int .i64 n, .slice A m c] 35)).alloc (.cells #[.int .i64 n', .slice A' m' c'] 35)) := (Below.refl _ _).alloc (Nat.le_refl _) _
  have HT1 := Lib.hid ((TyB.new (w := w) (n := n) (A := A) (m := m) (c := c)).go hb1)
  have hr := TyB.new (w := w.alloc (.cells #[.int .i64 n, .slice A m c] 35)) (n := n') (A := A') (m := m') (c := c')
  rw [hs0] at hr
  have HU1 := Lib.hid hr
  have HB1 := Lib.hid (Below.then hb0 hb1 (Nat.le_refl _))
  have HX := Lib.hid h
  have HX' := Lib.hid h'
  have hcap := h.cap
  have hsm := h.small
  have hcap' := h'.cap
  have hsm' := h'.small
  have HL := Lib.hid (And.intro h.len h'.len)
  unfold maxLen at hsm hsm'
  have HEQ : Hid (eqT n n' l l' = decide (n = n' ∧ l = l')) := Lib.hid rfl
  generalize eqT n n' l l' = eb at *
  clear h h' hb0 hb1 hr
  have c0 := HT1.out.cell0
  have c1 := HT1.out.cell1
  have d0 := HU1.out.cell0
  have d1 := HU1.out.cell1
  by_cases hn : n = n'
  · subst hn
    by_cases hm : m = m'
    · subst hm
      have HEL : Hid (eb = decide (l = l')) := Lib.hid (by rw [HEQ.out]; simp)
      clear HEQ
      go_enter Try.func18, Try.ntmps18
      go_wp2
      generalize (w.alloc (.cells #[.int .i64 n, .slice A m c] 35)).alloc (.cells #[.int .i64 n, .slice A' m c'] 35) = w1 at *
      generalize htb : w.heap.size = tb at *
      have htl : tb ≤ w.heap.size := by omega
      have HTB := Lib.hid htb
      clear hs0 c0 c1 d0 d1 htb
      go_loopw [5] (fun kv wr => ∃ (j : Nat), j ≤ m ∧ kv = .int .i64 j ∧ Hid (l.take j = l'.take j ∧ TyB wr tb n A m c ∧ TyB wr (tb + 1) n A' m c' ∧ Below tb w wr)) (fun kv _ => m - (intOf kv).toNat)
      case atStart => exact ⟨0, by omega, rfl, Lib.hid ⟨rfl, HT1.out, HU1.out, HB1.out⟩⟩
      case round =>
        obtain ⟨j, hj, rfl, hh⟩ := hrel
        have HJ := Lib.hid hh.out.1
        have HT := Lib.hid hh.out.2.1
        have HU := Lib.hid hh.out.2.2.1
        have HB := Lib.hid hh.out.2.2.2
        have c1 := HT.out.cell1
        have d1 := HU.out.cell1
        clear hh HT1 HU1 HB1
        by_cases hjm : j < m
        · have hj1 : (j : Int) < (m : Int) := by omega
          obtain ⟨b, o, u, v, hu, rfl, hb, g0, g1, gu⟩ := (HX.out.below HB.out).at_ hjm
          obtain ⟨b', o', u', v', hu', rfl, hb', g0', g1', gu'⟩ := (HX'.out.below HB.out).at_ hjm
          by_cases he : (u, v) = (u', v')
          · obtain ⟨rfl, rfl⟩ : u = u' ∧ v = v' := by injection he; exact ⟨by assumption, by assumption⟩
            have HN := Lib.hid (take_next HJ.out hu hu')
            clear hu hu' he gu gu' hb hb'
            go_wp2
            go_quiet (fail)
            have HBQ := Lib.hid (below_drewN (Below.refl wr.heap.size wr) nq)
            have HT2 := Lib.hid (HT.out.go HBQ.out)
            have HU2 := Lib.hid (HU.out.go HBQ.out)
            have HB2 := Lib.hid (Below.then HB.out HBQ.out htl)
            clear HT HU HB c1 d1 HBQ g0 g1 g0' g1'
            go_wp2
            go_roundw
            case rel => exact ⟨j + 1, by omega, by go_num, Lib.hid ⟨HN.out, HT2.out, HU2.out, HB2.out⟩⟩
            case measure => simp [intOf]; omega
          · have HV : Hid (eb = false) := Lib.hid (by
              rw [HEL.out, decide_eq_false_iff_not]
              rintro rfl
              rw [hu] at hu'
              exact he (Option.some.inj hu'))
            clear hu hu' gu gu' hb hb'
            by_cases hue : u = u'
            · subst hue
              have hve : ¬ v = v' := fun e => he (by rw [e])
              clear he
              go_wp2
              go_quiet (fail)
              go_wp2
              go_ret
              exact ⟨by rw [HV.out]; rfl, by rw [HTB.out]; exact Below.then HB.out (below_drewN (Below.refl wr.heap.size wr) nq) htl⟩
            · clear he
              go_wp2
              go_quiet (fail)
              go_wp2
              go_ret
              exact ⟨by rw [HV.out]; rfl, by rw [HTB.out]; exact Below.then HB.out (below_drewN (Below.refl wr.heap.size wr) nq) htl⟩
        · obtain rfl : j = m := by omega
          have hjj : ¬ (j : Int) < (j : Int) := by omega
          have hll : l = l' := by
            have := HJ.out
            rwa [List.take_of_length_le (by rw [HL.out.1]; exact Nat.le_refl _), List.take_of_length_le (by rw [HL.out.2]; exact Nat.le_refl _)] at this
          have HV : Hid (eb = true) := Lib.hid (by rw [HEL.out, hll]; simp)
          clear hll
          go_wp2
          go_ret
          exact ⟨by rw [HV.out]; rfl, by rw [HTB.out]; exact HB.out⟩
    · have HV : Hid (eb = false) := Lib.hid (by
        rw [HEQ.out, decide_eq_false_iff_not]
        rintro ⟨_, rfl⟩
        exact hm (by rw [← HL.out.1, ← HL.out.2]))
      have d2 : ((m : Int) != (m' : Int)) = true := by rw [bne_iff_ne]; omega
      clear HEQ
      go_enter Try.func18, Try.ntmps18
      go_wp2
      go_ret
      exact ⟨by rw [HV.out]; rfl, HB1.out⟩
  · have HV : Hid (eb = false) := Lib.hid (by
      rw [HEQ.out, decide_eq_false_iff_not]
      rintro ⟨rfl, _⟩
      exact hn rfl)
    have d2 : (n != n') = true := by rw [bne_iff_ne]; exact hn
    clear HEQ
    go_enter Try.func18, Try.ntmps18
    go_wp2
    go_ret
    exact ⟨by rw [HV.out]; rfl, HB1.out⟩
end Go.Proofs.Ytgddlpabgeeflaa
