/-
  Contracts of New, Len, Put and Take of a pool of strings. Conditions: at most a million items.
-/
import Derived.Test.YtnciidegddhhpaaPin
namespace Go.Proofs.Ytnciidegddhhpaa
open Go.ChangeShapes Go.WideShapes Go.RowKit
set_option linter.unusedVariables false
set_option maxHeartbeats 4000000
set_option maxRecDepth 100000

/-- A string. -/
def str1 : Enc ByteArray where
  k := 1
  ev := fun x => [.string x]
  len := fun _ => rfl
  one := fun x u hu => by
    simp only [List.mem_singleton] at hu
    subst hu
    rfl
  pos := by omega
/-- A pool of strings. -/
abbrev PolS := Pol str1 9 63
theorem infoS : (Try.prog.info? 9).map (fun i => (i.zero, i.size, i.bytes)) = some (some (.string ByteArray.empty), 1, 16) := by kernel_rfl
def ClS (w : World) (l : List ByteArray) (e : Ending) (w' : World) : Prop := ∃ v, e = .returned v ∧ OwnK str1 9 w' w.heap.size v l ∧ Below w.heap.size w w'
theorem cloneS_any (A : Option Addr) (n c : Nat) (l : List ByteArray) (w : World) (h : Kws str1 w w.heap.size A n c l) (hn : n ≤ 1000000) :
    Calls Try.prog 25 #[.slice A n c] w (ClS w l) := by
  obtain ⟨i0, hi, hz0, hz1, hz2⟩ := info_parts infoS
  have HX := Lib.hid h
  cases A with
  | none =>
    obtain rfl : c = 0 := h.nil rfl
    obtain rfl : n = 0 := by have := h.cap; omega
    obtain rfl : l = [] := List.eq_nil_of_length_eq_zero h.len
    have hq : ∀ W : World, (binOp .eql 39 (.slice none 0 0) (.slice none 0 0)).run Try.prog W = .ok (.bool true) W := fun W => Lib.run_eql_slice_nil W _ _ none 0 0 0 0 Try.underlying39
    clear h
    go_enter Try.func25, Try.ntmps25
    go_wp2
    go_ret
    exact ⟨_, rfl, OwnK.nil _ _ _ _, Below.refl _ _⟩
  | some a =>
    have hq : ∀ W : World, (binOp .eql 39 (.slice (some a) n c) (.slice none 0 0)).run Try.prog W = .ok (.bool false) W := fun W => Lib.run_eql_slice_nil W _ _ (some a) n c 0 0 Try.underlying39
    have HO : Hid (OwnK str1 9 (w.alloc (.cells #[] 9)) w.heap.size (.slice (some ⟨w.heap.size, 0, none⟩) 0 0) []) := Lib.hid (World.ownsRow_made w #[] 0 (Nat.le_refl _) (Nat.zero_le _) rfl)
    clear h
    go_enter Try.func25, Try.ntmps25
    go_wp2_with (at_builtin; go_must (refine wpList_appK _ rfl (.tmp 5) (.tmp 6) 39 rfl Try.underlying39 hi hz0 rfl hz1 (by omega) HO.out rfl (HX.out.alloc _) rfl (by simp; omega) (by simp) ?_); intro v2 w2 ho2 hb2 hg2)
    go_ret
    exact ⟨_, rfl, ho2, ((Below.refl _ _).alloc (Nat.le_refl _) _).trans hb2⟩
theorem newS_any (A : Option Addr) (n cc : Nat) (l : List ByteArray) (w : World) (h : Kws str1 w w.heap.size A n cc l) (hn : n ≤ 1000000) (c : Nat → Nat) (k : Nat) :
    Calls Try.prog 16 #[.slice A n cc] w fun e w' => ∃ p, e = .returned (.pointer (some ⟨p, 0, none⟩)) ∧ w.heap.size ≤ p ∧ PolS w' (rc c w.heap.size k) k p l ∧ Below w.heap.size w w' := by
  have HC := Lib.hid (cloneS_any A n cc l w h hn)
  clear h
  go_enter Try.func16, Try.ntmps16
  go_wp2_with fail
  refine HC.out.mono ?_
  rintro e w2 ⟨v, rfl, ho, hb⟩
  have HO := Lib.hid ho
  have HB := Lib.hid hb
  obtain ⟨A2, n2, c2, rfl, hx2⟩ := ho.shape
  clear HC ho hb hx2
  go_wp2
  go_ret
  exact ⟨_, rfl, HB.out.size, Pol.new HO.out HB.out.size (fun g hg => rc_new hg), HB.out.alloc HB.out.size _⟩
theorem lenS_any (w : World) (c : Nat → Nat) (k p : Nat) (l : List ByteArray) (h : PolS w c k p l) :
    Calls Try.prog 21 #[.pointer (some ⟨p, 0, none⟩)] w fun e w' => e = .returned (.int .i64 l.length) ∧ w = w' := by
  obtain ⟨v, h1, h2, h3, h4⟩ := h.ex
  obtain ⟨A, n, cc, rfl, hks⟩ := h2.shape
  have HLN := Lib.hid hks.len
  have k0 : w.cell? ⟨p, 0, none⟩ = some (.slice A n cc) := cell_of_row w p 0 _ _ _ h1
  clear h h1 h2 h3 h4 hks
  go_enter Try.func21, Try.ntmps21
  go_wp2
  go_ret
  exact ⟨by rw [HLN.out]; rfl, rfl⟩
def TkS (w : World) (c : Nat → Nat) (k p : Nat) (l : List ByteArray) (d : Int) (e : Ending) (w' : World) : Prop :=
  e = .returned (.tuple #[.string (tkX (⟨#[]⟩ : ByteArray) l d), .bool (!l.isEmpty)]) ∧ PolS w' c k p (tkL (⟨#[]⟩ : ByteArray) l d) ∧ Kept c k w w' ∧ KeepsOthers w w'
theorem takeS_any (w : World) (c : Nat → Nat) (k p : Nat) (l : List ByteArray) (d : Int) (h : PolS w c k p l) (hl : l.length ≤ 1000000) (hd : 0 ≤ d ∧ d < 18446744073709551616) :
    Calls Try.prog 19 #[.pointer (some ⟨p, 0, none⟩), .int .u64 d] w (TkS w c k p l d) := by
  have HLN := Lib.hid (lenS_any w c k p l h)
  have HP := Lib.hid h
  unfold TkS
  by_cases hnil : l = []
  · subst hnil
    clear h
    simp only [List.length_nil] at HLN
    go_enter Try.func19, Try.ntmps19
    go_wp2_with fail
    refine HLN.out.mono ?_
    rintro e w2 ⟨rfl, rfl⟩
    go_wp2
    go_ret2
    exact ⟨rfl, HP.out, Kept.refl, KeepsOthers.refl _⟩
  · have hp0 : 0 < l.length := List.length_pos_iff.2 hnil
    obtain ⟨hix, hmod⟩ := ix_lt (d := d) hnil
    obtain ⟨v, h1, h2, h3, h4⟩ := h.ex
    obtain ⟨g, cap, cur, R, rfl, _, hgw, _, hlc, hcm, _⟩ := h2.opn hp0
    have HGP := Lib.hid (h4 g rfl)
    have HCP := Lib.hid h3
    have HM := Lib.hid (show Mp str1 9 63 w c k p (.slice (some ⟨g, 0, none⟩) l.length cap) w l from ⟨h1, h2, Kept.refl, KeepsOthers.refl _⟩)
    unfold maxLen at hcm
    have hx : l[ix l d]? = some (tkX (⟨#[]⟩ : ByteArray) l d) := by unfold tkX; rw [List.getD_eq_getElem?_getD, List.getElem?_eq_getElem hix]; rfl
    obtain ⟨y, hy⟩ : ∃ y, l[l.length - 1]? = some y := ⟨_, List.getElem?_eq_getElem (by omega)⟩
    have HTL : Hid (tkL (⟨#[]⟩ : ByteArray) l d = ((l.set (ix l d) y).set (l.length - 1) ⟨#[]⟩).take (l.length - 1)) := Lib.hid (by
      unfold tkL
      rw [List.getD_eq_getElem?_getD, hy, List.take_set_of_le (Nat.le_refl _)]
      rfl)
    have HNE : Hid ((!l.isEmpty) = true) := Lib.hid (by cases l with | nil => exact absurd rfl hnil | cons a t => rfl)
    have HX := Lib.hid hx
    have HY := Lib.hid hy
    have HY2 : Hid (∃ u, (l.set (ix l d) y)[l.length - 1]? = some u) := Lib.hid ⟨_, List.getElem?_eq_getElem (by rw [List.length_set]; omega)⟩
    clear h h1 h2 h3 h4 hx hy
    generalize tkX (⟨#[]⟩ : ByteArray) l d = x at *
    generalize ix l d = i at *
    generalize hn : l.length = n at *
    have HN := Lib.hid hn
    clear hn
    obtain ⟨m, rfl⟩ : ∃ m, n = m + 1 := ⟨n - 1, by omega⟩
    rw [Nat.add_sub_cancel] at HTL HY HY2
    have k0 := HM.out.cell
    go_enter Try.func19, Try.ntmps19
    go_wp2_with fail
    refine HLN.out.mono ?_
    rintro e w2 ⟨rfl, rfl⟩
    go_wp2
    go_quiet (fail)
    have hb3 : Below w.heap.size w (w.drewN nq) := below_drewN (Below.refl w.heap.size w) nq
    have HM3 := Lib.hid (HM.out.go hb3)
    generalize w.drewN nq = w3 at *
    have hr : d % ((m : Int) + 1) = (i : Int) := by rw [hmod]; rfl
    rw [hr]
    have k3 := HM3.out.cell
    have k4 := (HM3.out.set1 (y := ⟨#[]⟩) rfl HGP.out HX.out rfl rfl).1
    have k5 := (HM3.out.set1 (y := ⟨#[]⟩) rfl HGP.out HY.out rfl rfl).1
    have HO3 := Lib.hid (HM3.out.set1 (y := y) rfl HGP.out HX.out rfl rfl)
    have k6 := HO3.out.2.1
    have q3 : ∀ q : Later w3, q.val.cell? ⟨p, 0, none⟩ = some (.slice (some ⟨g, 0, none⟩) (m + 1) cap) := fun q => later_old q k3
    have q4 : ∀ q : Later w3, q.val.cell? ⟨g, i, none⟩ = some (.string x) := fun q => later_old q k4
    have q5 : ∀ q : Later w3, q.val.cell? ⟨g, m, none⟩ = some (.string y) := fun q => later_old q k5
    clear hb3 k0 HLN hr hmod
    go_wp2_with fail
    refine wp_region_later_tail 13 (by kernel_rfl) (by kernel_rfl) ?_
    simp only [List.take_succ_cons, List.take_zero, List.drop_succ_cons, List.drop_zero]
    repeat (go_big_quiet_step (fail))
    refine wpQuiet_nil ?_
    rintro w4 ⟨⟨_, hq⟩, rfl⟩
    have HM4 := Lib.hid (HM3.out.go hq)
    have k7 := (HM4.out.set1 (y := y) rfl HGP.out HX.out rfl rfl).1
    have k8 := (HM4.out.set1 (y := y) rfl HGP.out HX.out rfl rfl).2.1
    have HM5 := Lib.hid (HM4.out.set1 (y := y) rfl HGP.out HX.out rfl rfl).2.2
    clear hq k3 k4 k5 k6 q3 q4 q5
    obtain ⟨z, hz⟩ := HY2.out
    have HM6 := HM5.out.set1 (y := ⟨#[]⟩) rfl HGP.out hz rfl rfl
    have k9 := HM5.out.cell
    have k10 := HM6.1
    have k11 := HM6.2.1
    have k12 := HM6.2.2.cell
    have k13 := HM6.2.2.fr
    have HE := Lib.hid (HM6.2.2.shrink HGP.out HCP.out (m := m) (by omega) (by omega))
    rw [← HTL.out] at HE
    clear HM6 hz
    go_wp2
    go_ret2
    exact ⟨by rw [HNE.out]; rfl, HE.out.1, HE.out.2.1, HE.out.2.2⟩
end Go.Proofs.Ytnciidegddhhpaa
