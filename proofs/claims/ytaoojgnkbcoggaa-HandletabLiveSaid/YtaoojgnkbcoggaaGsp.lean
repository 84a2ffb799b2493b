/-
  Contract of the landed Pool: the free slots as a list of its own. Conditions: at most a million free slots.
-/
import Derived.Test.YtaoojgnkbcoggaaGsw
import Derived.Test.YtaoojgnkbcoggaaPal
namespace Go.Proofs.Ytaoojgnkbcoggaa
open Go.ChangeShapes Go.WideShapes Go.ChangeAt Go.RowKit Go.Shelf
attribute [local go_sem] Oper.semAt_some
set_option linter.unusedVariables false
set_option maxHeartbeats 4000000
set_option maxRecDepth 100000

theorem poolS_any (c : Nat → Nat) (k p : Nat) (sl : List (Int × Bool)) (l : List Int) (w : World) (h : Slr w c k p sl l) (hn : l.length ≤ 1000000) :
    Calls Try.prog 50 #[.pointer (some ⟨p, 0, none⟩)] w (ClI w l) := by
  obtain ⟨_, _, _, q, d, _, q1, _, hP⟩ := h.cells
  obtain ⟨i0, hi0, hz0, hz1, hz2⟩ := info_parts infoI
  have hb1 : Below w.heap.size w (w.alloc (.cells #[.slice none 0 0] 67)) := (Below.refl _ _).alloc (Nat.le_refl _) _
  have hb2 : Below w.heap.size w ((w.alloc (.cells #[.slice none 0 0] 67)).alloc (.cells #[.pointer (some ⟨q, 0, none⟩)] 102)) := hb1.alloc hb1.size _
  have e : (w.alloc (.cells #[.slice none 0 0] 67)).heap.size = w.heap.size + 1 := by simp
  have hc0 := cell_alloc (w := w.alloc (.cells #[.slice none 0 0] 67)) (cs := #[.pointer (some ⟨q, 0, none⟩)]) (t := 102) (i := 0) rfl
  rw [e] at hc0
  have HSQ := Lib.hid (pool_stopsQ 5 w.heap.size (w.heap.size + 1) q d 1 l _ (by omega) hn (by simp; omega) (fun g hg => by
    unfold ob at hg
    rw [cell_under (cell_alloc rfl) _] at hg
    cases hg) hc0 (hP.go hb2))
  have HB2 := Lib.hid hb2
  have HL2 : Hid (LI w [] ((w.alloc (.cells #[.slice none 0 0] 67)).alloc (.cells #[.pointer (some ⟨q, 0, none⟩)] 102))) := Lib.hid ⟨hb2, none, 0, 0, (Cel.new (w := w) (t := 67) (v := .slice none 0 0)).go ((Below.refl _ _).alloc (Nat.le_refl _) _), OwnK.nil _ _ _ _⟩
  have hz2' : ((w.alloc (.cells #[.slice none 0 0] 67)).alloc (.cells #[.pointer (some ⟨q, 0, none⟩)] 102)).heap.size = w.heap.size + 2 := by simp
  have HAL := Lib.hid (allI_any (some ⟨q, 0, none⟩) (w.alloc (.cells #[.slice none 0 0] 67)))
  rw [e] at HAL
  have q1' : (w.alloc (.cells #[.slice none 0 0] 67)).cell? ⟨p, 1, none⟩ = some (.pointer (some ⟨q, 0, none⟩)) := cell_under q1 _
  clear hb1 hb2 hc0 hP e h
  refine (callsIn_wide (n := 6)).1 ?_
  refine callsIn_of_wp_marks Try.func50 rfl trivial ?_ rfl
  refine wpIn_wide.2 ?_
  simp only [Try.ntmps50, List.size_toArray, List.length_cons, List.length_nil, Nat.reduceAdd, Nat.reduceSub, Array.replicate_succ, Array.replicate_zero, List.push_toArray, List.append_toArray, List.nil_append, List.cons_append]
  go_wp2_with fail
  refine HAL.out.mono ?_
  rintro e w2 ⟨rfl, hw2⟩
  rw [← hw2] at HSQ HB2 HL2 hz2'
  clear hw2 HAL
  go_wp2
  refine (wpIn_wide (n := 6)).1 ?_
  refine' wpIn_rangeFunc_ownF rfl (by omega) (gf := 66) (lb := #[.pointer (some ⟨w.heap.size + 1, 0, none⟩)]) rfl trivial (enters_of Try.func66 (by kernel_rfl) rfl) HSQ.out Kq.t (Kq.b w2 (by omega)) (Below.refl _ _) (fun _ => rfl)
    (LI w)
    (fun _ (_ : List Int) _ => False)
    (li_own HB2.out.size)
    (fun _ => ownFrom_pure _ _)
    HL2.out _ ?assign ?body ?done ?stop
  case assign =>
    intro l x W K hK
    gi_wp2
    exact hK
  case body =>
    rintro lp pre x W ⟨hB, A', n', c', hc⟩ hlen
    have e0 := hc.cel.cell
    have HB := Lib.hid hB
    have HC := Lib.hid hc
    have hbw := hB.size
    have hbx : w.heap.size < W.heap.size := hc.cel.lt
    have hpl : pre.length ≤ 1000000 := by omega
    have HY : Hid (Kws int1 (W.alloc (.cells #[.int .i64 x] 3)) (W.heap.size + 1) (some ⟨W.heap.size, 0, none⟩) 1 1 [x]) := Lib.hid (Kws.new (E := int1) W [x] _ _ 1 rfl rfl (by unfold maxLen; omega))
    have e1 : (W.alloc (.cells #[.int .i64 x] 3)).cell? ⟨w.heap.size, 0, none⟩ = some (.slice A' n' c') := cell_under e0 _
    clear hB hc hlen
    gi_wp2_with (gi_at_builtin; go_must (refine wpListIn_appK _ rfl (.tmp 13) (.tmp 15) 67 rfl Try.underlying67 hi0 hz0 rfl hz1 (by omega) (HC.out.own.alloc _) rfl HY.out rfl (by omega) (by simp; omega) ?_); intro v3 w3 ho3 hg3 hn3; obtain ⟨A3, n3, c3, rfl, hx3⟩ := ho3.shape; have HA := Lib.hid (HC.out.app ho3 hg3 hn3); have e3 := HA.out.1.cell; have f3 := HA.out.1.fr; clear ho3 hg3 hn3 hx3)
    obtain ⟨_, h1, h2, h3, h4⟩ := HA.out
    exact ⟨h2, h3, HB.out.trans h4, A3, n3, c3, h1⟩
  case stop =>
    rintro D c pre W _ hp hb _
    exact hb.elim
  case done =>
    rintro D ys W hD rfl ⟨hB, A', n', c', hc⟩ hK
    have e0 := hc.cel.cell
    have HKW := Lib.hid (show Df W D from hK)
    have HDw := Lib.hid (Nat.le_trans HB2.out.size hD)
    have HB := Lib.hid hB
    have HC := Lib.hid hc
    clear hK hD hB hc
    dsimp only
    go_wp2
    refine leave_one HKW.out ?_
    have HBs := Lib.hid (HKW.out.below HDw.out HB.out (.deferred none))
    have HOs := Lib.hid (HC.out.grown (grownBy_putObj' W D (.deferred none)) (fun r e => by cases e; exact ⟨_, HKW.out, rfl⟩)).own
    refine ⟨.slice A' n' c', ?_, _, rfl, HOs.out.down (by omega), HBs.out⟩
    simp [results, Try.f50, go_sem]
end Go.Proofs.Ytaoojgnkbcoggaa
