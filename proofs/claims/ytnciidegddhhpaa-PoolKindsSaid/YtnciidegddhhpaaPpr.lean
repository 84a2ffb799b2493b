/-
  Contracts of New, Len, Put and Take of a pool of pairs of integers. Conditions: at most a million items.
-/
import Derived.Test.YtnciidegddhhpaaPin
import Derived.Deep.RegionLaw
namespace Go.Proofs.Ytnciidegddhhpaa
open Go.ChangeShapes Go.WideShapes Go.RowKit
set_option linter.unusedVariables false
set_option maxHeartbeats 4000000
set_option maxRecDepth 100000

/-- A pool of pairs of integers. -/
abbrev PolP := Pol int2 44 67
theorem infoP : (Try.prog.info? 44).map (fun i => (i.zero, i.size, i.bytes)) = some (some (.agg #[.int .i64 0, .int .i64 0]), 2, 16) := by kernel_rfl
def ClP (w : World) (l : List (Int × Int)) (e : Ending) (w' : World) : Prop := ∃ v, e = .returned v ∧ OwnK int2 44 w' w.heap.size v l ∧ Below w.heap.size w w'
theorem cloneP_any (A : Option Addr) (n c : Nat) (l : List (Int × Int)) (w : World) (h : Kws int2 w w.heap.size A n c l) (hn : n ≤ 1000000) :
    Calls Try.prog 26 #[.slice A n c] w (ClP w l) := by
  obtain ⟨i0, hi, hz0, hz1, hz2⟩ := info_parts infoP
  have HX := Lib.hid h
  cases A with
  | none =>
    obtain rfl : c = 0 := h.nil rfl
    obtain rfl : n = 0 := by have := h.cap; omega
    obtain rfl : l = [] := List.eq_nil_of_length_eq_zero h.len
    have hq : ∀ W : World, (binOp .eql 64 (.slice none 0 0) (.slice none 0 0)).run Try.prog W = .ok (.bool true) W := fun W => Lib.run_eql_slice_nil W _ _ none 0 0 0 0 Try.underlying64
    clear h
    go_enter Try.func26, Try.ntmps26
    go_wp2
    go_ret
    exact ⟨_, rfl, OwnK.nil _ _ _ _, Below.refl _ _⟩
  | some a =>
    have hq : ∀ W : World, (binOp .eql 64 (.slice (some a) n c) (.slice none 0 0)).run Try.prog W = .ok (.bool false) W := fun W => Lib.run_eql_slice_nil W _ _ (some a) n c 0 0 Try.underlying64
    have HO : Hid (OwnK int2 44 (w.alloc (.cells #[] 44)) w.heap.size (.slice (some ⟨w.heap.size, 0, none⟩) 0 0) []) := Lib.hid (World.ownsRow_made w #[] 0 (Nat.le_refl _) (Nat.zero_le _) rfl)
    clear h
    go_enter Try.func26, Try.ntmps26
    go_wp2_with (at_builtin; go_must (refine wpList_appK _ rfl (.tmp 5) (.tmp 6) 64 rfl Try.underlying64 hi hz0 rfl hz1 (by omega) HO.out rfl (HX.out.alloc _) rfl (by simp; omega) (by simp) ?_); intro v2 w2 ho2 hb2 hg2)
    go_ret
    exact ⟨_, rfl, ho2, ((Below.refl _ _).alloc (Nat.le_refl _) _).trans hb2⟩
theorem newP_any (A : Option Addr) (n cc : Nat) (l : List (Int × Int)) (w : World) (h : Kws int2 w w.heap.size A n cc l) (hn : n ≤ 1000000) (c : Nat → Nat) (k : Nat) :
    Calls Try.prog 17 #[.slice A n cc] w fun e w' => ∃ p, e = .returned (.pointer (some ⟨p, 0, none⟩)) ∧ w.heap.size ≤ p ∧ PolP w' (rc c w.heap.size k) k p l ∧ Below w.heap.size w w' := by
  have HC := Lib.hid (cloneP_any A n cc l w h hn)
  clear h
  go_enter Try.func17, Try.ntmps17
  go_wp2_with fail
  refine HC.out.mono ?_
  rintro e w2 ⟨v, rfl, ho, hb⟩
  have HO := Lib.hid ho
  have HB := Lib.hid hb
  obtain ⟨A2, n2, c2, rfl, hx2⟩ := ho.shape
  clear HC ho hb hx2
  go_wp2
  go_ret
  exact ⟨_, rfl, HB.out.size, Pol.new HO.out HB.out.size (fun g hg => rc_new hg), HB.out.alloc HB.out.size _⟩
theorem lenP_any (w : World) (c : Nat → Nat) (k p : Nat) (l : List (Int × Int)) (h : PolP w c k p l) :
    Calls Try.prog 22 #[.pointer (some ⟨p, 0, none⟩)] w fun e w' => e = .returned (.int .i64 l.length) ∧ w = w' := by
  obtain ⟨v, h1, h2, h3, h4⟩ := h.ex
  obtain ⟨A, n, cc, rfl, hks⟩ := h2.shape
  have HLN := Lib.hid hks.len
  have k0 : w.cell? ⟨p, 0, none⟩ = some (.slice A n cc) := cell_of_row w p 0 _ _ _ h1
  clear h h1 h2 h3 h4 hks
  go_enter Try.func22, Try.ntmps22
  go_wp2
  go_ret
  exact ⟨by rw [HLN.out]; rfl, rfl⟩
theorem putP_any (w : World) (c : Nat → Nat) (k p : Nat) (l : List (Int × Int)) (x y : Int) (h : PolP w c k p l) (hl : l.length ≤ 1000000) :
    Calls Try.prog 18 #[.pointer (some ⟨p, 0, none⟩), .agg #[.int .i64 x, .int .i64 y]] w fun e w' => (∃ v, e = .returned v) ∧ PolP w' (rc c w.heap.size k) k p (l ++ [(x, y)]) ∧ Kept c k w w' := by
  obtain ⟨i0, hi, hz0, hz1, hz2⟩ := info_parts infoP
  obtain ⟨v, h1, h2, h3, h4⟩ := h.ex
  have hpw := h.lt
  have H4 := Lib.hid h4
  have H3 := Lib.hid h3
  have H1 := Lib.hid h1
  have H2 := Lib.hid h2
  obtain ⟨A, n, cc, rfl, hks⟩ := h2.shape
  have HI := Lib.hid hi
  have HZ := Lib.hid hz0
  have hbx : Below w.heap.size w (w.alloc (.cells #[.int .i64 x, .int .i64 y] 44)) := (Below.refl _ _).alloc (Nat.le_refl _) _
  have hbd : Below w.heap.size w ((w.alloc (.cells #[.int .i64 x, .int .i64 y] 44)).drew) := Below.then hbx (below_drewN (Below.refl _ _) 1) (Nat.le_refl _)
  have hb1 : Below w.heap.size w (((w.alloc (.cells #[.int .i64 x, .int .i64 y] 44)).alloc (.cells #[.int .i64 x, .int .i64 y] 44)).drew) := Below.then (hbx.alloc hbx.size _) (below_drewN (Below.refl _ _) 1) (Nat.le_refl _)
  have HB1 := Lib.hid hb1
  have HO1 := Lib.hid (h2.below hb1)
  have k0 : w.cell? ⟨p, 0, none⟩ = some (.slice A n cc) := cell_of_row w p 0 _ _ _ h1
  have k1 : ((w.alloc (.cells #[.int .i64 x, .int .i64 y] 44)).drew).cell? ⟨p, 0, none⟩ = some (.slice A n cc) := (hbd.cell (p := ⟨p, 0, none⟩) hpw).trans k0
  have k2 : (((w.alloc (.cells #[.int .i64 x, .int .i64 y] 44)).alloc (.cells #[.int .i64 x, .int .i64 y] 44)).drew).cell? ⟨p, 0, none⟩ = some (.slice A n cc) := (hb1.cell (p := ⟨p, 0, none⟩) hpw).trans k0
  have hbn := below_drewN (Below.refl (w.alloc (.cells #[.int .i64 x, .int .i64 y] 44)).heap.size (w.alloc (.cells #[.int .i64 x, .int .i64 y] 44))) 1
  have m0 : ((w.alloc (.cells #[.int .i64 x, .int .i64 y] 44)).drew).cell? ⟨w.heap.size, 0, none⟩ = some (.int .i64 x) := (hbn.cell (p := ⟨w.heap.size, 0, none⟩) (by simp)).trans (cell_alloc rfl)
  have m1 : ((w.alloc (.cells #[.int .i64 x, .int .i64 y] 44)).drew).cell? ⟨w.heap.size, 1, none⟩ = some (.int .i64 y) := (hbn.cell (p := ⟨w.heap.size, 1, none⟩) (by simp)).trans (cell_alloc rfl)
  have HY : Hid (Kws int2 (((w.alloc (.cells #[.int .i64 x, .int .i64 y] 44)).alloc (.cells #[.int .i64 x, .int .i64 y] 44)).drew) (w.heap.size + 1 + 1) (some ⟨w.heap.size + 1, 0, none⟩) 1 1 [(x, y)]) := Lib.hid (by
    have e := Kws.new (E := int2) (w.alloc (.cells #[.int .i64 x, .int .i64 y] 44)) [(x, y)] #[.int .i64 x, .int .i64 y] 44 1 rfl rfl (by unfold maxLen; omega)
    rw [show (w.alloc (.cells #[.int .i64 x, .int .i64 y] 44)).heap.size = w.heap.size + 1 by simp] at e
    exact e.below (below_drewN (Below.refl _ _) 1))
  clear h h1 h2 h3 h4 hks hi hz0 hb1 hbd hbx hbn
  go_enter Try.func18, Try.ntmps18
  go_wp2_with fail
  go_region_law (refine step_appK (E' := int2) _ rfl (.tmp 10) (.tmp 12) 64 rfl Try.underlying64 HI.out HZ.out rfl hz1 (by omega) HO1.out rfl HY.out rfl (by omega) (by simp) ?_; intro v2 w2 ho2 hg2 hv2; obtain ⟨A2, n2, c2, rfl, hx2⟩ := ho2.shape; have HP := Lib.hid (Pol.put (pt := 67) H1.out H2.out H3.out H4.out HB1.out ho2 hg2 hv2); have k2 : w2.cell? ⟨p, 0, none⟩ = some (.slice A n cc) := cell_of_row w2 p 0 _ _ _ HP.out.2.2; have k3 : w2.frozen? ⟨p, 0, none⟩ = false := frozen_of_row w2 p 0 _ _ HP.out.2.2; clear ho2 hg2 hv2 hx2)
  all_goals
    go_wp2
    go_end0
    exact ⟨⟨_, rfl⟩, HP.out.1, HP.out.2.1⟩
/-- A block that holds a pair. -/
def Bp (w : World) (b : Nat) (x y : Int) : Prop := w.heap[b]? = some (.cells #[.int .i64 x, .int .i64 y] 44 (0, 0))
section
variable {w w' : World} {b g o : Nat} {x y : Int} {u : Value}
theorem Bp.new : Bp (w.alloc (.cells #[.int .i64 x, .int .i64 y] 44)) w.heap.size x y := heap_alloc_new w _
theorem Bp.lt (h : Bp w b x y) : b < w.heap.size := (Array.getElem?_eq_some_iff.1 h).1
theorem Bp.go (h : Bp w b x y) (hb : Below w.heap.size w w') : Bp w' b x y := (hb.block b h.lt).trans h
theorem Bp.apart (h : Bp w b x y) (hne : b ≠ g) : Bp (w.setCell ⟨g, o, none⟩ u) b x y := ((run_setAt w g o u).block b h.lt (fun e => hne (Option.some.inj e))).trans h
theorem Bp.cell0 (h : Bp w b x y) : w.cell? ⟨b, 0, none⟩ = some (.int .i64 x) := cell_of_row w b 0 _ _ _ h
theorem Bp.cell1 (h : Bp w b x y) : w.cell? ⟨b, 1, none⟩ = some (.int .i64 y) := cell_of_row w b 1 _ _ _ h
theorem Bp.fr (h : Bp w b x y) (i : Nat) : w.frozen? ⟨b, i, none⟩ = false := frozen_of_row w b i _ _ h
theorem Bp.set (h : Bp w b x y) (x' y' : Int) : Bp ((w.setCell ⟨b, 0, none⟩ (.int .i64 x')).setCell ⟨b, 1, none⟩ (.int .i64 y')) b x' y' ∧
    (w.setCell ⟨b, 0, none⟩ (.int .i64 x')).cell? ⟨b, 1, none⟩ = some (.int .i64 y) ∧ (w.setCell ⟨b, 0, none⟩ (.int .i64 x')).frozen? ⟨b, 1, none⟩ = false := by
  have h1 : (w.setCell ⟨b, 0, none⟩ (.int .i64 x')).heap[b]? = some (.cells #[.int .i64 x', .int .i64 y] 44 (0, 0)) := heap_setCell_same w b 0 _ _ _ h
  exact ⟨heap_setCell_same _ b 1 _ _ _ h1, cell_of_row _ b 1 _ _ _ h1, frozen_of_row _ b 1 _ _ h1⟩
end
section
variable {et pt : TypeId} {w0 w : World} {c : Nat → Nat} {k p g n cap i : Nat} {l : List (Int × Int)} {a b : Int}
theorem Mp.set2 (h : Mp int2 et pt w0 c k p (.slice (some ⟨g, 0, none⟩) n cap) w l) (hgp : c g = k ∧ g ≠ p) (hx : l[i]? = some (a, b)) (a' b' : Int) :
    w.cell? ⟨g, i * 2, none⟩ = some (.int .i64 a) ∧ w.cell? ⟨g, i * 2 + 1, none⟩ = some (.int .i64 b) ∧ w.frozen? ⟨g, i * 2, none⟩ = false ∧ w.frozen? ⟨g, i * 2 + 1, none⟩ = false ∧
    (w.setCell ⟨g, i * 2, none⟩ (.int .i64 a')).cell? ⟨g, i * 2 + 1, none⟩ = some (.int .i64 b) ∧ (w.setCell ⟨g, i * 2, none⟩ (.int .i64 a')).frozen? ⟨g, i * 2 + 1, none⟩ = false ∧
    Mp int2 et pt w0 c k p (.slice (some ⟨g, 0, none⟩) n cap) ((w.setCell ⟨g, i * 2, none⟩ (.int .i64 a')).setCell ⟨g, i * 2 + 1, none⟩ (.int .i64 b')) (l.set i (a', b')) := by
  have h1 := h.set (j := 0) (y := (a', b)) (u' := .int .i64 a') hgp hx rfl rfl
  have h2 := h.set (j := 1) (y := (a, b)) (u' := .int .i64 b) hgp hx rfl rfl
  have hl : (l.set i (a', b))[i]? = some (a', b) := by
    have := (List.getElem?_eq_some_iff.1 hx).1
    rw [List.getElem?_set_self (by omega)]
  have h3 := h1.2.2.set (j := 1) (y := (a', b')) (u' := .int .i64 b') hgp hl rfl rfl
  rw [List.set_set] at h3
  exact ⟨h1.1, h2.1, h1.2.1, h2.2.1, h3.1, h3.2.1, h3.2.2⟩
end
def TkP (w : World) (c : Nat → Nat) (k p : Nat) (l : List (Int × Int)) (d : Int) (e : Ending) (w' : World) : Prop :=
  e = .returned (.tuple #[.agg #[.int .i64 (tkX (0, 0) l d).1, .int .i64 (tkX (0, 0) l d).2], .bool (!l.isEmpty)]) ∧ PolP w' c k p (tkL (0, 0) l d) ∧ Kept c k w w' ∧ KeepsOthers w w'
theorem takeP_any (w : World) (c : Nat → Nat) (k p : Nat) (l : List (Int × Int)) (d : Int) (h : PolP w c k p l) (hl : l.length ≤ 1000000) (hd : 0 ≤ d ∧ d < 18446744073709551616) :
    Calls Try.prog 20 #[.pointer (some ⟨p, 0, none⟩), .int .u64 d] w (TkP w c k p l d) := by
  have hbA : Below w.heap.size w (w.alloc (.cells #[.int .i64 0, .int .i64 0] 44)) := (Below.refl _ _).alloc (Nat.le_refl _) _
  have hbB : Below w.heap.size w ((w.alloc (.cells #[.int .i64 0, .int .i64 0] 44)).alloc (.cells #[.int .i64 0, .int .i64 0] 44)) := hbA.alloc hbA.size _
  have HR := Lib.hid ((Bp.new (w := w) (x := 0) (y := 0)).go ((Below.refl _ _).alloc (Nat.le_refl _) (.cells #[.int .i64 0, .int .i64 0] 44)))
  have HZ : Hid (Bp ((w.alloc (.cells #[.int .i64 0, .int .i64 0] 44)).alloc (.cells #[.int .i64 0, .int .i64 0] 44)) (w.heap.size + 1) 0 0) := Lib.hid (by
    have e := Bp.new (w := w.alloc (.cells #[.int .i64 0, .int .i64 0] 44)) (x := 0) (y := 0)
    rwa [show (w.alloc (.cells #[.int .i64 0, .int .i64 0] 44)).heap.size = w.heap.size + 1 by simp] at e)
  have HPW := h.lt
  have HP0 := Lib.hid h
  have HBB := Lib.hid hbB
  have HLN := Lib.hid (lenP_any _ c k p l (h.go hbB))
  unfold TkP
  clear hbA hbB
  by_cases hnil : l = []
  · subst hnil
    clear h
    simp only [List.length_nil] at HLN
    go_enter Try.func20, Try.ntmps20
    go_wp2_with fail
    generalize ((w.alloc (.cells #[.int .i64 0, .int .i64 0] 44)).alloc (.cells #[.int .i64 0, .int .i64 0] 44)) = wB at *
    refine HLN.out.mono ?_
    rintro e w2 ⟨rfl, rfl⟩
    have z0 := HZ.out.cell0
    have z1 := HZ.out.cell1
    have r0 := HR.out.cell0
    have r1 := HR.out.cell1
    have f0 := HR.out.fr 0
    have f1 := HR.out.fr 1
    have g1 := (HR.out.set 0 0).2.1
    have g2 := (HR.out.set 0 0).2.2
    have HB2 := Lib.hid (HR.out.set 0 0).1
    have k0 := HB2.out.cell0
    have k1 := HB2.out.cell1
    go_wp2
    refine bodyPost_ret (v := .tuple #[.agg #[.int .i64 0, .int .i64 0], .bool false]) (by simp [results, Try.results20, go_sem, k0, k1]) rfl ?_
    have hbz : Below w.heap.size w ((wB.setCell ⟨w.heap.size, 0, none⟩ (.int .i64 0)).setCell ⟨w.heap.size, 1, none⟩ (.int .i64 0)) := (HBB.out.setCell (p := ⟨w.heap.size, 0, none⟩) (Nat.le_refl _) _).setCell (p := ⟨w.heap.size, 1, none⟩) (Nat.le_refl _) _
    exact ⟨rfl, HP0.out.go hbz, Kept.ofBelow hbz, keepsOthers_below hbz⟩
  · have hp0 : 0 < l.length := List.length_pos_iff.2 hnil
    obtain ⟨hix, hmod⟩ := ix_lt (d := d) hnil
    obtain ⟨v, h1, h2, h3, h4⟩ := h.ex
    obtain ⟨g, cap, cur, R, rfl, _, hgw, _, hlc, hcm, _⟩ := h2.opn hp0
    have HGP := Lib.hid (h4 g rfl)
    have HCP := Lib.hid h3
    have HM := Lib.hid (show Mp int2 44 67 w c k p (.slice (some ⟨g, 0, none⟩) l.length cap) _ l from (Mp.mk h1 h2 Kept.refl (KeepsOthers.refl _)).go HBB.out)
    unfold maxLen at hcm
    obtain ⟨x, hxx⟩ : ∃ x, tkX (0, 0) l d = x := ⟨_, rfl⟩
    have hx : l[ix l d]? = some x := by rw [← hxx]; unfold tkX; rw [List.getD_eq_getElem?_getD, List.getElem?_eq_getElem hix]; rfl
    obtain ⟨y, hy⟩ : ∃ y, l[l.length - 1]? = some y := ⟨_, List.getElem?_eq_getElem (by omega)⟩
    have HTL : Hid (tkL (0, 0) l d = ((l.set (ix l d) y).set (l.length - 1) (0, 0)).take (l.length - 1)) := Lib.hid (by
      unfold tkL
      rw [List.getD_eq_getElem?_getD, hy, List.take_set_of_le (Nat.le_refl _)]
      rfl)
    have HNE : Hid ((!l.isEmpty) = true) := Lib.hid (by cases l with | nil => exact absurd rfl hnil | cons a t => rfl)
    have HX := Lib.hid hx
    have HY := Lib.hid hy
    have HY2 : Hid (∃ u, (l.set (ix l d) y)[l.length - 1]? = some u) := Lib.hid ⟨_, List.getElem?_eq_getElem (by rw [List.length_set]; omega)⟩
    rw [hxx]
    clear h h1 h2 h3 h4 hx hy hxx
    generalize ix l d = i at *
    generalize hn : l.length = n at *
    have HN := Lib.hid hn
    clear hn
    obtain ⟨m, rfl⟩ : ∃ m, n = m + 1 := ⟨n - 1, by omega⟩
    rw [Nat.add_sub_cancel] at HTL HY HY2
    have k0 := HM.out.cell
    obtain ⟨xa, xb⟩ := x
    obtain ⟨ya, yb⟩ := y
    simp only
    go_enter Try.func20, Try.ntmps20
    go_wp2_with fail
    generalize ((w.alloc (.cells #[.int .i64 0, .int .i64 0] 44)).alloc (.cells #[.int .i64 0, .int .i64 0] 44)) = wB at *
    refine HLN.out.mono ?_
    rintro e w2 ⟨rfl, rfl⟩
    go_wp2
    go_quiet (fail)
    have hb3 : Below wB.heap.size wB (wB.drewN nq) := below_drewN (Below.refl wB.heap.size wB) nq
    have HM3 := Lib.hid (HM.out.go hb3)
    have HR3 := Lib.hid (HR.out.go hb3)
    have HZ3 := Lib.hid (HZ.out.go hb3)
    have hr : d % ((m : Int) + 1) = (i : Int) := by rw [hmod]; rfl
    rw [hr]
    generalize wB.drewN nq = w3 at *
    have hb4 : Below w3.heap.size w3 (w3.alloc (.cells #[.int .i64 xa, .int .i64 xb] 44)) := (Below.refl _ _).alloc (Nat.le_refl _) _
    have HM4 := Lib.hid (HM3.out.go hb4)
    have HR4 := Lib.hid (HR3.out.go hb4)
    have HZ4 := Lib.hid (HZ3.out.go hb4)
    have k3 := HM3.out.cell
    have k4 := (HM3.out.set2 HGP.out HX.out 0 0).1
    have k5 := (HM3.out.set2 HGP.out HX.out 0 0).2.1
    clear hb3 hb4 k0 HLN hr hmod
    have HB4 := Lib.hid (Bp.new (w := w3) (x := xa) (y := xb))
    have HXB : Hid (w.heap.size + 2 ≤ w3.heap.size) := Lib.hid (by have := HZ3.out.lt; omega)
    go_wp2_with fail
    generalize w3.alloc (.cells #[.int .i64 xa, .int .i64 xb] 44) = w4 at *
    generalize w3.heap.size = xbk at *
    have n0 := HM4.out.cell
    have s4 := HM4.out.set2 HGP.out HX.out ya yb
    have s5 := HM4.out.set2 HGP.out HY.out 0 0
    have q3 : ∀ q : Later w4, q.val.cell? ⟨p, 0, none⟩ = some (.slice (some ⟨g, 0, none⟩) (m + 1) cap) := fun q => later_old q n0
    have q5 : ∀ q : Later w4, q.val.cell? ⟨g, m * 2, none⟩ = some (.int .i64 ya) := fun q => later_old q s5.1
    have q6 : ∀ q : Later w4, q.val.cell? ⟨g, m * 2 + 1, none⟩ = some (.int .i64 yb) := fun q => later_old q s5.2.1
    clear n0 s4 s5 k3 k4 k5
    refine wp_region_later_tail 13 (by kernel_rfl) (by kernel_rfl) ?_
    simp only [List.take_succ_cons, List.take_zero, List.drop_succ_cons, List.drop_zero]
    repeat (go_big_quiet_step (fail))
    refine wpQuiet_nil ?_
    rintro w5 ⟨⟨_, hq⟩, rfl⟩
    have HM5 := Lib.hid (HM4.out.go hq)
    have HR5 := Lib.hid (HR4.out.go hq)
    have HZ5 := Lib.hid (HZ4.out.go hq)
    have HB5 := Lib.hid (HB4.out.go hq)
    obtain ⟨s1, s2, s3, s4, s5, s6, s7⟩ := HM5.out.set2 HGP.out HX.out ya yb
    have HM6 := Lib.hid s7
    have hgr : w.heap.size ≠ g := by omega
    have hgz : w.heap.size + 1 ≠ g := by omega
    have hgx : xbk ≠ g := by have := HXB.out; omega
    have HR6 := Lib.hid ((HR5.out.apart (g := g) (o := i * 2) (u := .int .i64 ya) hgr).apart (g := g) (o := i * 2 + 1) (u := .int .i64 yb) hgr)
    have HZ6 := Lib.hid ((HZ5.out.apart (g := g) (o := i * 2) (u := .int .i64 ya) hgz).apart (g := g) (o := i * 2 + 1) (u := .int .i64 yb) hgz)
    have HB6 := Lib.hid ((HB5.out.apart (g := g) (o := i * 2) (u := .int .i64 ya) hgx).apart (g := g) (o := i * 2 + 1) (u := .int .i64 yb) hgx)
    clear hq q3 q5 q6 s7
    go_wp2_with fail
    generalize (w5.setCell ⟨g, i * 2, none⟩ (.int .i64 ya)).setCell ⟨g, i * 2 + 1, none⟩ (.int .i64 yb) = w6 at *
    clear s1 s2 s3 s4 s5 s6
    have n0 := HM6.out.cell
    have z0 := HZ6.out.cell0
    have z1 := HZ6.out.cell1
    have q3 : ∀ q : Later w6, q.val.cell? ⟨p, 0, none⟩ = some (.slice (some ⟨g, 0, none⟩) (m + 1) cap) := fun q => later_old q n0
    have q5 : ∀ q : Later w6, q.val.cell? ⟨w.heap.size + 1, 0, none⟩ = some (.int .i64 0) := fun q => later_old q z0
    have q6 : ∀ q : Later w6, q.val.cell? ⟨w.heap.size + 1, 1, none⟩ = some (.int .i64 0) := fun q => later_old q z1
    clear n0 z0 z1
    refine wp_region_later_tail 7 (by kernel_rfl) (by kernel_rfl) ?_
    simp only [List.take_succ_cons, List.take_zero, List.drop_succ_cons, List.drop_zero]
    repeat (go_big_quiet_step (fail))
    refine wpQuiet_nil ?_
    rintro w7 ⟨⟨_, hq⟩, rfl⟩
    have HM7 := Lib.hid (HM6.out.go hq)
    have HR7 := Lib.hid (HR6.out.go hq)
    have HB7 := Lib.hid (HB6.out.go hq)
    obtain ⟨⟨za, zb⟩, hz⟩ := HY2.out
    obtain ⟨s1, s2, s3, s4, s5, s6, s7⟩ := HM7.out.set2 HGP.out hz 0 0
    have HM8 := Lib.hid s7
    have HR8 := Lib.hid ((HR7.out.apart (g := g) (o := m * 2) (u := .int .i64 0) hgr).apart (g := g) (o := m * 2 + 1) (u := .int .i64 0) hgr)
    have HB8 := Lib.hid ((HB7.out.apart (g := g) (o := m * 2) (u := .int .i64 0) hgx).apart (g := g) (o := m * 2 + 1) (u := .int .i64 0) hgx)
    clear hq q3 q5 q6 s7 hz
    have t0 := HM8.out.cell
    have t1 := HM8.out.fr
    have hrp : w.heap.size ≠ p := by omega
    have hxp : xbk ≠ p := by have := HXB.out; omega
    have HM9 := Lib.hid (HM8.out.less HGP.out HCP.out (m := m) (by omega) (by omega))
    have HR9 := Lib.hid (HR8.out.apart (g := p) (o := 0) (u := .slice (some ⟨g, 0, none⟩) m cap) hrp)
    have HB9 := Lib.hid (HB8.out.apart (g := p) (o := 0) (u := .slice (some ⟨g, 0, none⟩) m cap) hxp)
    have t2 := HB9.out.cell0
    have t3 := HB9.out.cell1
    have t4 := HR9.out.cell0
    have t5 := HR9.out.fr 0
    have t6 := HR9.out.cell1
    have t7 := HR9.out.fr 1
    obtain ⟨hrs, t8, t9⟩ := HR9.out.set xa xb
    have HRF := Lib.hid hrs
    have HMF := Lib.hid ((HM9.out.apart (o := 0) hgw HPW (Nat.le_refl _) (.int .i64 xa)).apart (o := 1) hgw HPW (Nat.le_refl _) (.int .i64 xb))
    rw [← HTL.out] at HMF
    clear hrs
    go_wp2
    have k0 := HRF.out.cell0
    have k1 := HRF.out.cell1
    have hpk := HMF.out.pol HGP.out HCP.out
    refine bodyPost_ret (v := .tuple #[.agg #[.int .i64 xa, .int .i64 xb], .bool true]) (by simp [results, Try.results20, go_sem, k0, k1]) rfl ⟨by rw [HNE.out], hpk.1, hpk.2.1, hpk.2.2⟩
end Go.Proofs.Ytnciidegddhhpaa
