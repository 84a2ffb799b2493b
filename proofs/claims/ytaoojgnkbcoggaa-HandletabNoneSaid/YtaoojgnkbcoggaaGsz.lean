/-
  Contracts of nil and of zero slots. No conditions.
-/
import Derived.Test.YtaoojgnkbcoggaaGsp
namespace Go.Proofs.Ytaoojgnkbcoggaa
open Go.ChangeShapes Go.WideShapes Go.ChangeAt Go.RowKit Go.Shelf
attribute [local go_sem] Oper.semAt_some
set_option linter.unusedVariables false
set_option maxHeartbeats 4000000
set_option maxRecDepth 100000

/-- A nil pointer, or one to zero slots. -/
def Ba (w : World) (v : Value) : Prop := v = .pointer none ∨ ∃ p, v = .pointer (some ⟨p, 0, none⟩) ∧ w.cell? ⟨p, 0, none⟩ = some (.slice none 0 0) ∧ w.cell? ⟨p, 1, none⟩ = some (.pointer none)
theorem Ba.go {w w' : World} {v : Value} (h : Ba w v) (hb : Below w.heap.size w w') : Ba w' v := by
  rcases h with h | ⟨p, h1, h2, h3⟩
  · exact .inl h
  · exact .inr ⟨p, h1, (hb.cell (p := ⟨p, 0, none⟩) (lt_of_some h2)).trans h2, (hb.cell (p := ⟨p, 1, none⟩) (lt_of_some h3)).trans h3⟩
theorem sizeZ_any (w : World) (v : Value) (h : Ba w v) : Calls Try.prog 37 #[v] w fun e w' => e = .returned (.int .i64 0) ∧ w = w' := by
  rcases h with rfl | ⟨p, rfl, q0, q1⟩
  · go_enter Try.func37, Try.ntmps37
    go_wp2
    go_ret
    exact ⟨rfl, rfl⟩
  · go_enter Try.func37, Try.ntmps37
    go_wp2
    go_ret
    exact ⟨rfl, rfl⟩
theorem liveZ_any (w : World) (v : Value) (x : Int) (h : Ba w v) : Calls Try.prog 38 #[v, .int .i64 x] w fun e w' => e = .returned (.tuple #[.int .i64 0, .bool false]) ∧ w = w' := by
  have HS := Lib.hid (sizeZ_any w v h)
  by_cases hx : x < 0
  · go_enter Try.func38, Try.ntmps38
    go_wp2
    go_ret2
    exact ⟨rfl, rfl⟩
  · have hx1 : x ≥ 0 := by omega
    go_enter Try.func38, Try.ntmps38
    go_wp2_with fail
    refine HS.out.mono ?_
    rintro e w2 ⟨rfl, rfl⟩
    go_wp2
    go_ret2
    exact ⟨rfl, rfl⟩
theorem endZ_any (w : World) (v : Value) (x : Int) (h : Ba w v) : Calls Try.prog 44 #[v, .int .i64 x] w fun e w' => e = .returned (.int .i64 6) ∧ w = w' := by
  have HS := Lib.hid (liveZ_any w v x h)
  go_enter Try.func44, Try.ntmps44
  go_wp2_with fail
  refine HS.out.mono ?_
  rintro e w2 ⟨rfl, rfl⟩
  go_wp2
  go_ret
  exact ⟨rfl, rfl⟩
theorem issZ_any (w : World) (v : Value) (d : Int) (h : Ba w v) : Calls Try.prog 46 #[v, .int .u64 d] w fun e w' => e = .returned (.tuple #[.int .i64 0, .int .i64 0, .int .i64 17]) ∧ w = w' := by
  rcases h with rfl | ⟨p, rfl, q0, q1⟩
  · go_enter Try.func46, Try.ntmps46
    go_wp2
    refine bodyPost_ret (results_tmp3 rfl _ _ _) rfl ?_
    exact ⟨rfl, rfl⟩
  · go_enter Try.func46, Try.ntmps46
    go_wp2_with fail
    refine (takeIN_any w d).mono ?_
    rintro e w2 ⟨rfl, rfl⟩
    go_wp2
    refine bodyPost_ret (results_tmp3 rfl _ _ _) rfl ?_
    exact ⟨rfl, rfl⟩
theorem retZ_any (w : World) (v : Value) (h : Ba w v) : Calls Try.prog 49 #[v] w fun e w' => e = .returned (.int .i64 0) ∧ w = w' := by
  rcases h with rfl | ⟨p, rfl, q0, q1⟩
  · go_enter Try.func49, Try.ntmps49
    go_wp2
    go_ret
    exact ⟨rfl, rfl⟩
  · go_enter Try.func49, Try.ntmps49
    go_wp2
    go_loopw [3, 13] (fun ct kv wr => ct = .int .i64 0 ∧ kv = .int .i64 0 ∧ wr = w) (fun _ _ _ => 0)
    case atStart => exact ⟨rfl, rfl, rfl⟩
    case round =>
      obtain ⟨rfl, rfl, rfl⟩ := hrel
      go_wp2
      go_ret
      exact ⟨rfl, rfl⟩
theorem poolZ_any (w : World) (v : Value) (h : Ba w v) : Calls Try.prog 50 #[v] w (ClI w []) := by
  rcases h with rfl | ⟨p, rfl, q0, q1⟩
  · go_enter Try.func50, Try.ntmps50
    go_wp2
    go_ret
    exact ⟨_, rfl, OwnK.nil _ _ _ _, Below.refl _ _⟩
  · obtain ⟨i0, hi0, hz0, hz1, hz2⟩ := info_parts infoI
    have hb1 : Below w.heap.size w (w.alloc (.cells #[.slice none 0 0] 67)) := (Below.refl _ _).alloc (Nat.le_refl _) _
    have hb2 : Below w.heap.size w ((w.alloc (.cells #[.slice none 0 0] 67)).alloc (.cells #[.pointer none] 102)) := hb1.alloc hb1.size _
    have e : (w.alloc (.cells #[.slice none 0 0] 67)).heap.size = w.heap.size + 1 := by simp
    have hc0 := cell_alloc (w := w.alloc (.cells #[.slice none 0 0] 67)) (cs := #[.pointer none]) (t := 102) (i := 0) rfl
    rw [e] at hc0
    have HSQ := Lib.hid (nilI_stops 5 0 (w.heap.size + 1) _ hc0)
    have HB2 := Lib.hid hb2
    have HL2 : Hid (LI w [] ((w.alloc (.cells #[.slice none 0 0] 67)).alloc (.cells #[.pointer none] 102))) := Lib.hid ⟨hb2, none, 0, 0, (Cel.new (w := w) (t := 67) (v := .slice none 0 0)).go ((Below.refl _ _).alloc (Nat.le_refl _) _), OwnK.nil _ _ _ _⟩
    have hz2' : ((w.alloc (.cells #[.slice none 0 0] 67)).alloc (.cells #[.pointer none] 102)).heap.size = w.heap.size + 2 := by simp
    have HAL := Lib.hid (allI_any none (w.alloc (.cells #[.slice none 0 0] 67)))
    rw [e] at HAL
    have q1' : (w.alloc (.cells #[.slice none 0 0] 67)).cell? ⟨p, 1, none⟩ = some (.pointer none) := cell_under q1 _
    clear hb1 hb2 hc0 e
    refine (callsIn_wide (n := 6)).1 ?_
    refine callsIn_of_wp_marks Try.func50 rfl trivial ?_ rfl
    refine wpIn_wide.2 ?_
    simp only [Try.ntmps50, List.size_toArray, List.length_cons, List.length_nil, Nat.reduceAdd, Nat.reduceSub, Array.replicate_succ, Array.replicate_zero, List.push_toArray, List.append_toArray, List.nil_append, List.cons_append]
    go_wp2_with fail
    refine HAL.out.mono ?_
    rintro e w2 ⟨rfl, hw2⟩
    rw [← hw2] at HSQ HB2 HL2 hz2'
    clear hw2 HAL
    go_wp2
    refine (wpIn_wide (n := 6)).1 ?_
    refine' wpIn_rangeFunc_ownF rfl (by omega) (gf := 66) (lb := #[.pointer (some ⟨w.heap.size + 1, 0, none⟩)]) rfl trivial (enters_of Try.func66 (by kernel_rfl) rfl) HSQ.out Kp.t (Kp.b w2) (Below.refl _ _) (fun _ => rfl)
      (LI w)
      (fun _ (_ : List Int) _ => False)
      (li_own HB2.out.size)
      (fun _ => ownFrom_pure _ _)
      HL2.out _ ?assign ?body ?done ?stop
    case assign =>
      intro l x W K hK
      gi_wp2
      exact hK
    case body =>
      rintro lp pre x W _ hlen
      exact absurd hlen (Nat.not_lt_zero _)
    case stop =>
      rintro D c pre W _ hp hb _
      exact hb.elim
    case done =>
      rintro D ys W hD rfl ⟨hB, A', n', c', hc⟩ hK
      have e0 := hc.cel.cell
      have HKW := Lib.hid (show Df W D from hK)
      have HDw := Lib.hid (Nat.le_trans HB2.out.size hD)
      have HB := Lib.hid hB
      have HC := Lib.hid hc
      clear hK hD hB hc
      dsimp only
      go_wp2
      refine leave_one HKW.out ?_
      have HBs := Lib.hid (HKW.out.below HDw.out HB.out (.deferred none))
      have HOs := Lib.hid (HC.out.grown (grownBy_putObj' W D (.deferred none)) (fun r e => by cases e; exact ⟨_, HKW.out, rfl⟩)).own
      refine ⟨.slice A' n' c', ?_, _, rfl, HOs.out.down (by omega), HBs.out⟩
      simp [results, Try.f50, go_sem]
end Go.Proofs.Ytaoojgnkbcoggaa
