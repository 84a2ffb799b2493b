/-
  Contracts of the law's comparison of lists of integers and of the definition's Take. Conditions: at most a million items; Take: of a list that is not empty.
-/
import Derived.Test.YtaoojgnkbcoggaaPit
import Derived.Test.YtaoojgnkbcoggaaPou
namespace Go.Proofs.Ytaoojgnkbcoggaa
open Go.ChangeShapes Go.WideShapes Go.RowKit
set_option linter.unusedVariables false
set_option maxHeartbeats 4000000
set_option maxRecDepth 100000

theorem take_next {α : Type} {l l' : List α} {j : Nat} {x : α} (h : l.take j = l'.take j) (h1 : l[j]? = some x) (h2 : l'[j]? = some x) : l.take (j + 1) = l'.take (j + 1) := by
  rw [List.take_add_one, List.take_add_one, h, h1, h2]
theorem Kws.int_at {w : World} {B n c : Nat} {A : Option Addr} {l : List Int} (h : Kws int1 w B A n c l) {i : Nat} (hi : i < n) :
    ∃ b o x, l[i]? = some x ∧ A = some ⟨b, o, none⟩ ∧ b < B ∧ w.cell? ⟨b, o + i, none⟩ = some (.int .i64 x) := by
  obtain ⟨b, o, x, h1, h2, h3, h4⟩ := h.at_ hi
  have h5 := h4 0 _ rfl
  rw [show int1.k = 1 from rfl, Nat.mul_one, Nat.add_zero] at h5
  exact ⟨b, o, x, h1, h2, h3, h5⟩
theorem OwnK.int_set {t : TypeId} {w : World} {base g n cap i : Nat} {l : List Int} {x : Int} (h : OwnK int1 t w base (.slice (some ⟨g, 0, none⟩) n cap) l) (hx : l[i]? = some x) (y : Int) :
    w.cell? ⟨g, i, none⟩ = some (.int .i64 x) ∧ w.frozen? ⟨g, i, none⟩ = false ∧ OwnK int1 t (w.setCell ⟨g, i, none⟩ (.int .i64 y)) base (.slice (some ⟨g, 0, none⟩) n cap) (l.set i y) := by
  obtain ⟨g', cap', e, h1, h2, h3, h4, h5⟩ := h.store (j := 0) (y := y) (u' := .int .i64 y) hx rfl rfl
  cases e
  rw [show int1.k = 1 from rfl, Nat.mul_one, Nat.add_zero] at h3 h4 h5
  exact ⟨h3, h4, h5⟩
def RtE (w : World) (l : List Int) (d : Int) (e : Ending) (w' : World) : Prop := ∃ v, e = .returned (.tuple #[.int .i64 (tkX 0 l d), v]) ∧ OwnK int1 3 w' w.heap.size v (tkL 0 l d) ∧ Below w.heap.size w w'
theorem refTI_any (A : Option Addr) (n c : Nat) (l : List Int) (d : Int) (w : World) (h : Kws int1 w w.heap.size A n c l) (hnil : l ≠ []) (hl : l.length ≤ 1000000) (hd : 0 ≤ d ∧ d < 18446744073709551616) :
    Calls Try.prog 63 #[.slice A n c, .int .u64 d] w (RtE w l d) := by
  obtain ⟨i0, hi, hz0, hz1, hz2⟩ := info_parts infoI
  have hp0 : 0 < l.length := List.length_pos_iff.2 hnil
  obtain ⟨hix, hmod⟩ := ix_lt (d := d) hnil
  have hx : l[ix l d]? = some (tkX 0 l d) := by unfold tkX; rw [List.getD_eq_getElem?_getD, List.getElem?_eq_getElem hix]; rfl
  obtain ⟨y, hy⟩ : ∃ y, l[l.length - 1]? = some y := ⟨_, List.getElem?_eq_getElem (by omega)⟩
  have HTL : Hid (tkL 0 l d = (l.set (ix l d) y).take (l.length - 1)) := Lib.hid (by
    unfold tkL
    rw [List.getD_eq_getElem?_getD, hy]
    rfl)
  have HK := Lib.hid h
  have hcap := h.cap
  have hsm := h.small
  unfold maxLen at hsm
  obtain ⟨b, o, x', hx', rfl, hb, hc1⟩ := h.int_at (i := ix l d) (by have := h.len; omega)
  obtain rfl : tkX 0 l d = x' := by rw [hx] at hx'; exact Option.some.inj hx'
  have hnl := h.len
  unfold RtE
  have HX := Lib.hid hx
  have HY := Lib.hid hy
  clear h hx hy hx'
  generalize tkX 0 l d = x at *
  generalize ix l d = i at *
  obtain ⟨m, rfl⟩ : ∃ m, n = m + 1 := ⟨n - 1, by omega⟩
  have HN := Lib.hid hnl
  have hr : d % ((m : Int) + 1) = (i : Int) := by rw [hmod, hnl]; rfl
  rw [hnl] at hix hp0 hl
  rw [hnl, Nat.add_sub_cancel] at HTL
  have hy' := HY.out
  rw [hnl, Nat.add_sub_cancel] at hy'
  have HY' := Lib.hid hy'
  have hr0 : 0 ≤ d % ((m : Int) + 1) ∧ d % ((m : Int) + 1) < (m : Int) + 1 := by omega
  obtain rfl : i = (d % ((m : Int) + 1)).toNat := by omega
  clear HY hy' hmod hnl hr
  have HO : Hid (OwnK int1 3 (w.alloc (.cells #[] 3)) w.heap.size (.slice (some ⟨w.heap.size, 0, none⟩) 0 0) []) := Lib.hid (World.ownsRow_made w #[] 0 (Nat.le_refl _) (Nat.zero_le _) rfl)
  have HBA : Hid (Below w.heap.size w (w.alloc (.cells #[] 3))) := Lib.hid ((Below.refl _ _).alloc (Nat.le_refl _) _)
  go_enter Try.func63, Try.ntmps63
  go_wp2_with (at_builtin; go_must (refine wpList_appK _ rfl (.tmp 19) (.tmp 20) 67 rfl Try.underlying67 hi hz0 rfl hz1 (by omega) HO.out rfl (HK.out.alloc _) rfl (by simp; omega) (by simp) ?_); intro v2 w2 ho2 hb2 hg2; rw [List.nil_append] at ho2; obtain ⟨g, cap, cur, R, rfl, hgb, hgw, _, hlc, hcm, _⟩ := ho2.opn (by have := HN.out; omega); rw [HN.out] at ho2 hlc ⊢; have HO2 := Lib.hid ho2; have HB2 := Lib.hid (HBA.out.trans hb2); unfold maxLen at hcm; have q1 := (ho2.int_set HY'.out 0).1; have q2 := (ho2.int_set HX.out y).1; have q3 := (ho2.int_set HX.out y).2.1; have HO3 := Lib.hid (ho2.int_set HX.out y).2.2; clear ho2 hb2 hg2)
  go_quiet (fail)
  have HB3 : Hid (Below w.heap.size w ((w2.setCell ⟨g, (d % ((m : Int) + 1)).toNat, none⟩ (.int .i64 y)).drewN nq)) := Lib.hid (below_drewN (HB2.out.setCell (p := ⟨g, (d % ((m : Int) + 1)).toNat, none⟩) hgb _) nq)
  have HO4 : Hid (OwnK int1 3 ((w2.setCell ⟨g, (d % ((m : Int) + 1)).toNat, none⟩ (.int .i64 y)).drewN nq) w.heap.size (.slice (some ⟨g, 0, none⟩) (m + 1) cap) (l.set (d % ((m : Int) + 1)).toNat y)) := Lib.hid (HO3.out.below (below_drewN (Below.refl _ _) nq))
  go_wp2
  go_ret2
  refine ⟨_, rfl, ?_, HB3.out⟩
  rw [HTL.out]
  exact HO4.out.shrink (by omega) (by omega)
end Go.Proofs.Ytaoojgnkbcoggaa
