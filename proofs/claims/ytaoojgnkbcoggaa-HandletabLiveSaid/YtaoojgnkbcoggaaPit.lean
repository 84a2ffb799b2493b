/-
  Contract of Take of a pool of integers, and of a nil one. Conditions: at most a million items.
-/
import Derived.Test.YtaoojgnkbcoggaaPin
namespace Go.Proofs.Ytaoojgnkbcoggaa
open Go.ChangeShapes Go.WideShapes Go.RowKit
set_option linter.unusedVariables false
set_option maxHeartbeats 4000000
set_option maxRecDepth 100000

def TkI (w : World) (c : Nat → Nat) (k p : Nat) (l : List Int) (d : Int) (e : Ending) (w' : World) : Prop :=
  e = .returned (.tuple #[.int .i64 (tkX 0 l d), .bool (!l.isEmpty)]) ∧ PolI w' c k p (tkL 0 l d) ∧ Kept c k w w' ∧ KeepsOthers w w'
theorem takeI_any (w : World) (c : Nat → Nat) (k p : Nat) (l : List Int) (d : Int) (h : PolI w c k p l) (hl : l.length ≤ 1000000) (hd : 0 ≤ d ∧ d < 18446744073709551616) :
    Calls Try.prog 56 #[.pointer (some ⟨p, 0, none⟩), .int .u64 d] w (TkI w c k p l d) := by
  have HLN := Lib.hid (lenI_any w c k p l h)
  have HP := Lib.hid h
  unfold TkI
  by_cases hnil : l = []
  · subst hnil
    clear h
    simp only [List.length_nil] at HLN
    go_enter Try.func56, Try.ntmps56
    go_wp2_with fail
    refine HLN.out.mono ?_
    rintro e w2 ⟨rfl, rfl⟩
    go_wp2
    go_ret2
    exact ⟨rfl, HP.out, Kept.refl, KeepsOthers.refl _⟩
  · have hp0 : 0 < l.length := List.length_pos_iff.2 hnil
    obtain ⟨hix, hmod⟩ := ix_lt (d := d) hnil
    obtain ⟨v, h1, h2, h3, h4⟩ := h.ex
    obtain ⟨g, cap, cur, R, rfl, _, hgw, _, hlc, hcm, _⟩ := h2.opn hp0
    have HGP := Lib.hid (h4 g rfl)
    have HCP := Lib.hid h3
    have HM := Lib.hid (show Mp int1 3 123 w c k p (.slice (some ⟨g, 0, none⟩) l.length cap) w l from ⟨h1, h2, Kept.refl, KeepsOthers.refl _⟩)
    unfold maxLen at hcm
    have hx : l[ix l d]? = some (tkX 0 l d) := by unfold tkX; rw [List.getD_eq_getElem?_getD, List.getElem?_eq_getElem hix]; rfl
    obtain ⟨y, hy⟩ : ∃ y, l[l.length - 1]? = some y := ⟨_, List.getElem?_eq_getElem (by omega)⟩
    have HTL : Hid (tkL 0 l d = ((l.set (ix l d) y).set (l.length - 1) 0).take (l.length - 1)) := Lib.hid (by
      unfold tkL
      rw [List.getD_eq_getElem?_getD, hy, List.take_set_of_le (Nat.le_refl _)]
      rfl)
    have HNE : Hid ((!l.isEmpty) = true) := Lib.hid (by cases l with | nil => exact absurd rfl hnil | cons a t => rfl)
    have HX := Lib.hid hx
    have HY := Lib.hid hy
    have HY2 : Hid (∃ u, (l.set (ix l d) y)[l.length - 1]? = some u) := Lib.hid ⟨_, List.getElem?_eq_getElem (by rw [List.length_set]; omega)⟩
    clear h h1 h2 h3 h4 hx hy
    generalize tkX 0 l d = x at *
    generalize ix l d = i at *
    generalize hn : l.length = n at *
    have HN := Lib.hid hn
    clear hn
    obtain ⟨m, rfl⟩ : ∃ m, n = m + 1 := ⟨n - 1, by omega⟩
    rw [Nat.add_sub_cancel] at HTL HY HY2
    have k0 := HM.out.cell
    go_enter Try.func56, Try.ntmps56
    go_wp2_with fail
    refine HLN.out.mono ?_
    rintro e w2 ⟨rfl, rfl⟩
    go_wp2
    go_quiet (fail)
    have hb3 : Below w.heap.size w (w.drewN nq) := below_drewN (Below.refl w.heap.size w) nq
    have HM3 := Lib.hid (HM.out.go hb3)
    generalize w.drewN nq = w3 at *
    have hr : d % ((m : Int) + 1) = (i : Int) := by rw [hmod]; rfl
    rw [hr]
    have k3 := HM3.out.cell
    have k4 := (HM3.out.set1 (y := 0) rfl HGP.out HX.out rfl rfl).1
    have k5 := (HM3.out.set1 (y := 0) rfl HGP.out HY.out rfl rfl).1
    have HO3 := Lib.hid (HM3.out.set1 (y := y) rfl HGP.out HX.out rfl rfl)
    have k6 := HO3.out.2.1
    have q3 : ∀ q : Later w3, q.val.cell? ⟨p, 0, none⟩ = some (.slice (some ⟨g, 0, none⟩) (m + 1) cap) := fun q => later_old q k3
    have q4 : ∀ q : Later w3, q.val.cell? ⟨g, i, none⟩ = some (.int .i64 x) := fun q => later_old q k4
    have q5 : ∀ q : Later w3, q.val.cell? ⟨g, m, none⟩ = some (.int .i64 y) := fun q => later_old q k5
    clear hb3 k0 HLN hr hmod
    go_wp2_with fail
    refine wp_region_later_tail 13 (by kernel_rfl) (by kernel_rfl) ?_
    simp only [List.take_succ_cons, List.take_zero, List.drop_succ_cons, List.drop_zero]
    repeat (go_big_quiet_step (fail))
    refine wpQuiet_nil ?_
    rintro w4 ⟨⟨_, hq⟩, rfl⟩
    have HM4 := Lib.hid (HM3.out.go hq)
    have k7 := (HM4.out.set1 (y := y) rfl HGP.out HX.out rfl rfl).1
    have k8 := (HM4.out.set1 (y := y) rfl HGP.out HX.out rfl rfl).2.1
    have HM5 := Lib.hid (HM4.out.set1 (y := y) rfl HGP.out HX.out rfl rfl).2.2
    clear hq k3 k4 k5 k6 q3 q4 q5
    obtain ⟨z, hz⟩ := HY2.out
    have HM6 := HM5.out.set1 (y := 0) rfl HGP.out hz rfl rfl
    have k9 := HM5.out.cell
    have k10 := HM6.1
    have k11 := HM6.2.1
    have k12 := HM6.2.2.cell
    have k13 := HM6.2.2.fr
    have HE := Lib.hid (HM6.2.2.shrink HGP.out HCP.out (m := m) (by omega) (by omega))
    rw [← HTL.out] at HE
    clear HM6 hz
    go_wp2
    go_ret2
    exact ⟨by rw [HNE.out]; rfl, HE.out.1, HE.out.2.1, HE.out.2.2⟩
theorem takeIN_any (w : World) (d : Int) : Calls Try.prog 56 #[.pointer none, .int .u64 d] w fun e w' => e = .returned (.tuple #[.int .i64 0, .bool false]) ∧ w = w' := by
  have HLN := Lib.hid (lenIN_any w)
  go_enter Try.func56, Try.ntmps56
  go_wp2_with fail
  refine HLN.out.mono ?_
  rintro e w2 ⟨rfl, rfl⟩
  go_wp2
  go_ret2
  exact ⟨rfl, rfl⟩
end Go.Proofs.Ytaoojgnkbcoggaa
