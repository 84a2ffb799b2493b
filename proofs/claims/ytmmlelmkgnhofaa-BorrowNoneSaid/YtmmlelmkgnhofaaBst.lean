/-
  A step of the law: a call of the ledger and one of its model. Conditions: at most a hundred thousand borrows.
-/
import Derived.Test.YtmmlelmkgnhofaaTwo
namespace Go.Proofs.Ytmmlelmkgnhofaa
open Go.ChangeShapes Go.WideShapes Go.RowKit
set_option linter.unusedVariables false
set_option linter.unusedSimpArgs false
set_option maxHeartbeats 8000000
set_option maxRecDepth 100000

section
variable {B N : Nat} {w : World} {c : Nat → Nat} {p m : Nat} {L : List Bo} {x0 x1 x2 x3 : Int}
theorem release_any {k : Nat} {o h : Int} (H : Led w c k p L) (hW : Wl N L) (hN : N ≤ 100000) (ho : Ri o) : Calls Try.prog 18 #[.pointer (some ⟨p, 0, none⟩), .int .i64 o, .int .i64 h] w (LdE w c k p (.int .i64 (relE o h L)) (relL o h L)) := by
  unfold relE relL
  cases e : hasL o h L with
  | none =>
    refine (release_no H.toq ho hW.srt (by have := hW.len; omega) e).mono fun e' w' h1 => ?_
    obtain ⟨rfl, hb⟩ := h1
    exact ⟨rfl, H.later hb, Kept.ofBelow hb⟩
  | some z =>
    have := release_yes H hW hN ho e
    unfold relL at this
    rw [e] at this
    exact this
theorem step14_rel (hT : Two B N w c p m L) (hN : N ≤ 100000) (h0 : 0 ≤ x0 ∧ x0 ≤ 255) (h1 : 0 ≤ x1 ∧ x1 ≤ 255) (h2 : 0 ≤ x2 ∧ x2 ≤ 255) (h3 : 0 ≤ x3 ∧ x3 ≤ 255) (hx : x0 % 12 = 2 ∨ x0 % 12 = 3 ∨ x0 % 12 = 4 ∨ x0 % 12 = 5) :
    Calls Try.prog 11 #[.pointer (some ⟨p, 0, none⟩), .pointer (some ⟨m, 0, none⟩), .agg #[.int .u8 x0, .int .u8 x1, .int .u8 x2, .int .u8 x3]] w (StE B N w c p m (relL (x1 % 4) (x2 % 4) L)) := by
  have hba : Below w.heap.size w (w.alloc (.cells #[.int .u8 x0, .int .u8 x1, .int .u8 x2, .int .u8 x3] 30)) := (Below.refl _ _).alloc (Nat.le_refl _) _
  have HT0 := Lib.hid (hT.go hba)
  have HBA := Lib.hid hba
  have hbx : Bx4 (w.alloc (.cells #[.int .u8 x0, .int .u8 x1, .int .u8 x2, .int .u8 x3] 30)) w.heap.size x0 x1 x2 x3 := heap_alloc_new w _
  have HBX := Lib.hid hbx
  obtain ⟨y0, y1, y2, y3⟩ := hbx.cells
  have e1 := Int.emod_nonneg x1 (show (4 : Int) ≠ 0 by omega)
  have e2 := Int.emod_nonneg x2 (show (4 : Int) ≠ 0 by omega)
  have HR1 := Lib.hid (ri_4 x1)
  generalize hw1 : w.alloc (.cells #[.int .u8 x0, .int .u8 x1, .int .u8 x2, .int .u8 x3] 30) = w1 at *
  clear hba hbx
  rcases hx with hx | hx | hx | hx
  · go_enter Try.func11, Try.ntmps11
    go_wp2_with fail
    go_quiet (fail)
    have hq : Below w1.heap.size w1 (w1.drewN nq) := below_drewN (Below.refl w1.heap.size w1) nq
    have HT2 := Lib.hid (HT0.out.go hq)
    have HX2 : Hid (Bx4 (w1.drewN nq) w.heap.size x0 x1 x2 x3) := Lib.hid ((hq.block _ (Array.getElem?_eq_some_iff.1 HBX.out).1).trans HBX.out)
    have HC2 : Hid (∀ g, g < w.heap.size → rc (rc c w.heap.size 0) w1.heap.size 0 g = c g) := Lib.hid (fun g hg => by rw [rc_old (by have := HBA.out.size; omega), rc_old hg])
    have HB2 : Hid (Below w.heap.size w (w1.drewN nq)) := Lib.hid (Below.then HBA.out hq (Nat.le_refl _))
    generalize rc (rc c w.heap.size 0) w1.heap.size 0 = c2 at *
    generalize w1.drewN nq = w2 at *
    clear y0 y1 y2 y3 hq HT0 HBA HBX hw1
    obtain ⟨y0, y1, y2, y3⟩ := HX2.out.cells
    have HI := Lib.hid (release_any (o := x1 % 4) (h := x2 % 4) HT2.out.lb HT2.out.wl hN HR1.out)
    go_wp2_with fail
    refine HI.out.mono ?_
    rintro e w3 ⟨rfl, hL3, hk3⟩
    have HL3 := Lib.hid hL3
    have HK3 := Lib.hid hk3
    have HJ := Lib.hid (releaseR_any (o := x1 % 4) (h := x2 % 4) (HT2.out.mid hk3) HT2.out.wl hN)
    clear HI hL3 hk3
    go_wp2_with fail
    refine HJ.out.mono ?_
    rintro e w4 ⟨rfl, hM4, hk4⟩
    obtain ⟨hT4, hz4⟩ := HT2.out.both HL3.out HK3.out hM4 hk4 (HT2.out.wl.rel.mono (Nat.le_succ N))
    clear hM4 hk4 HJ
    have hz23 := HK3.out.size
    have HK : Hid (Kz c w w4) := Lib.hid ((Kz.ofBelow HB2.out).trans HC2.out hz4)
    have HC4 : Hid (∀ g, g < w.heap.size → rc (rc c2 w2.heap.size 1) w3.heap.size 2 g = c g) := Lib.hid (fun g hg => (both_old (Nat.lt_of_lt_of_le hg HB2.out.size) hz23).trans (HC2.out g hg))
    have HT4 : Hid (Two B (N + 1) w4 (rc (rc c2 w2.heap.size 1) w3.heap.size 2) p m (relL (x1 % 4) (x2 % 4) L)) := Lib.hid ⟨hT4.lb, hT4.mb, fun g hg => by rw [HC4.out g (by have := hT.bd; omega)]; exact hT.lo g hg, hT4.wl, Nat.le_trans hT.bd HK.out.size⟩
    clear hT4 hz4
    go_wp2
    go_ret
    exact ⟨rfl, _, HT4.out, HK.out, HC4.out⟩
  · go_enter Try.func11, Try.ntmps11
    go_wp2_with fail
    go_quiet (fail)
    have hq : Below w1.heap.size w1 (w1.drewN nq) := below_drewN (Below.refl w1.heap.size w1) nq
    have HT2 := Lib.hid (HT0.out.go hq)
    have HX2 : Hid (Bx4 (w1.drewN nq) w.heap.size x0 x1 x2 x3) := Lib.hid ((hq.block _ (Array.getElem?_eq_some_iff.1 HBX.out).1).trans HBX.out)
    have HC2 : Hid (∀ g, g < w.heap.size → rc (rc c w.heap.size 0) w1.heap.size 0 g = c g) := Lib.hid (fun g hg => by rw [rc_old (by have := HBA.out.size; omega), rc_old hg])
    have HB2 : Hid (Below w.heap.size w (w1.drewN nq)) := Lib.hid (Below.then HBA.out hq (Nat.le_refl _))
    generalize rc (rc c w.heap.size 0) w1.heap.size 0 = c2 at *
    generalize w1.drewN nq = w2 at *
    clear y0 y1 y2 y3 hq HT0 HBA HBX hw1
    obtain ⟨y0, y1, y2, y3⟩ := HX2.out.cells
    have HI := Lib.hid (release_any (o := x1 % 4) (h := x2 % 4) HT2.out.lb HT2.out.wl hN HR1.out)
    go_wp2_with fail
    refine HI.out.mono ?_
    rintro e w3 ⟨rfl, hL3, hk3⟩
    have HL3 := Lib.hid hL3
    have HK3 := Lib.hid hk3
    have HJ := Lib.hid (releaseR_any (o := x1 % 4) (h := x2 % 4) (HT2.out.mid hk3) HT2.out.wl hN)
    clear HI hL3 hk3
    go_wp2_with fail
    refine HJ.out.mono ?_
    rintro e w4 ⟨rfl, hM4, hk4⟩
    obtain ⟨hT4, hz4⟩ := HT2.out.both HL3.out HK3.out hM4 hk4 (HT2.out.wl.rel.mono (Nat.le_succ N))
    clear hM4 hk4 HJ
    have hz23 := HK3.out.size
    have HK : Hid (Kz c w w4) := Lib.hid ((Kz.ofBelow HB2.out).trans HC2.out hz4)
    have HC4 : Hid (∀ g, g < w.heap.size → rc (rc c2 w2.heap.size 1) w3.heap.size 2 g = c g) := Lib.hid (fun g hg => (both_old (Nat.lt_of_lt_of_le hg HB2.out.size) hz23).trans (HC2.out g hg))
    have HT4 : Hid (Two B (N + 1) w4 (rc (rc c2 w2.heap.size 1) w3.heap.size 2) p m (relL (x1 % 4) (x2 % 4) L)) := Lib.hid ⟨hT4.lb, hT4.mb, fun g hg => by rw [HC4.out g (by have := hT.bd; omega)]; exact hT.lo g hg, hT4.wl, Nat.le_trans hT.bd HK.out.size⟩
    clear hT4 hz4
    go_wp2
    go_ret
    exact ⟨rfl, _, HT4.out, HK.out, HC4.out⟩
  · go_enter Try.func11, Try.ntmps11
    go_wp2_with fail
    go_quiet (fail)
    have hq : Below w1.heap.size w1 (w1.drewN nq) := below_drewN (Below.refl w1.heap.size w1) nq
    have HT2 := Lib.hid (HT0.out.go hq)
    have HX2 : Hid (Bx4 (w1.drewN nq) w.heap.size x0 x1 x2 x3) := Lib.hid ((hq.block _ (Array.getElem?_eq_some_iff.1 HBX.out).1).trans HBX.out)
    have HC2 : Hid (∀ g, g < w.heap.size → rc (rc c w.heap.size 0) w1.heap.size 0 g = c g) := Lib.hid (fun g hg => by rw [rc_old (by have := HBA.out.size; omega), rc_old hg])
    have HB2 : Hid (Below w.heap.size w (w1.drewN nq)) := Lib.hid (Below.then HBA.out hq (Nat.le_refl _))
    generalize rc (rc c w.heap.size 0) w1.heap.size 0 = c2 at *
    generalize w1.drewN nq = w2 at *
    clear y0 y1 y2 y3 hq HT0 HBA HBX hw1
    obtain ⟨y0, y1, y2, y3⟩ := HX2.out.cells
    have HI := Lib.hid (release_any (o := x1 % 4) (h := x2 % 4) HT2.out.lb HT2.out.wl hN HR1.out)
    go_wp2_with fail
    refine HI.out.mono ?_
    rintro e w3 ⟨rfl, hL3, hk3⟩
    have HL3 := Lib.hid hL3
    have HK3 := Lib.hid hk3
    have HJ := Lib.hid (releaseR_any (o := x1 % 4) (h := x2 % 4) (HT2.out.mid hk3) HT2.out.wl hN)
    clear HI hL3 hk3
    go_wp2_with fail
    refine HJ.out.mono ?_
    rintro e w4 ⟨rfl, hM4, hk4⟩
    obtain ⟨hT4, hz4⟩ := HT2.out.both HL3.out HK3.out hM4 hk4 (HT2.out.wl.rel.mono (Nat.le_succ N))
    clear hM4 hk4 HJ
    have hz23 := HK3.out.size
    have HK : Hid (Kz c w w4) := Lib.hid ((Kz.ofBelow HB2.out).trans HC2.out hz4)
    have HC4 : Hid (∀ g, g < w.heap.size → rc (rc c2 w2.heap.size 1) w3.heap.size 2 g = c g) := Lib.hid (fun g hg => (both_old (Nat.lt_of_lt_of_le hg HB2.out.size) hz23).trans (HC2.out g hg))
    have HT4 : Hid (Two B (N + 1) w4 (rc (rc c2 w2.heap.size 1) w3.heap.size 2) p m (relL (x1 % 4) (x2 % 4) L)) := Lib.hid ⟨hT4.lb, hT4.mb, fun g hg => by rw [HC4.out g (by have := hT.bd; omega)]; exact hT.lo g hg, hT4.wl, Nat.le_trans hT.bd HK.out.size⟩
    clear hT4 hz4
    go_wp2
    go_ret
    exact ⟨rfl, _, HT4.out, HK.out, HC4.out⟩
  · go_enter Try.func11, Try.ntmps11
    go_wp2_with fail
    go_quiet (fail)
    have hq : Below w1.heap.size w1 (w1.drewN nq) := below_drewN (Below.refl w1.heap.size w1) nq
    have HT2 := Lib.hid (HT0.out.go hq)
    have HX2 : Hid (Bx4 (w1.drewN nq) w.heap.size x0 x1 x2 x3) := Lib.hid ((hq.block _ (Array.getElem?_eq_some_iff.1 HBX.out).1).trans HBX.out)
    have HC2 : Hid (∀ g, g < w.heap.size → rc (rc c w.heap.size 0) w1.heap.size 0 g = c g) := Lib.hid (fun g hg => by rw [rc_old (by have := HBA.out.size; omega), rc_old hg])
    have HB2 : Hid (Below w.heap.size w (w1.drewN nq)) := Lib.hid (Below.then HBA.out hq (Nat.le_refl _))
    generalize rc (rc c w.heap.size 0) w1.heap.size 0 = c2 at *
    generalize w1.drewN nq = w2 at *
    clear y0 y1 y2 y3 hq HT0 HBA HBX hw1
    obtain ⟨y0, y1, y2, y3⟩ := HX2.out.cells
    have HI := Lib.hid (release_any (o := x1 % 4) (h := x2 % 4) HT2.out.lb HT2.out.wl hN HR1.out)
    go_wp2_with fail
    refine HI.out.mono ?_
    rintro e w3 ⟨rfl, hL3, hk3⟩
    have HL3 := Lib.hid hL3
    have HK3 := Lib.hid hk3
    have HJ := Lib.hid (releaseR_any (o := x1 % 4) (h := x2 % 4) (HT2.out.mid hk3) HT2.out.wl hN)
    clear HI hL3 hk3
    go_wp2_with fail
    refine HJ.out.mono ?_
    rintro e w4 ⟨rfl, hM4, hk4⟩
    obtain ⟨hT4, hz4⟩ := HT2.out.both HL3.out HK3.out hM4 hk4 (HT2.out.wl.rel.mono (Nat.le_succ N))
    clear hM4 hk4 HJ
    have hz23 := HK3.out.size
    have HK : Hid (Kz c w w4) := Lib.hid ((Kz.ofBelow HB2.out).trans HC2.out hz4)
    have HC4 : Hid (∀ g, g < w.heap.size → rc (rc c2 w2.heap.size 1) w3.heap.size 2 g = c g) := Lib.hid (fun g hg => (both_old (Nat.lt_of_lt_of_le hg HB2.out.size) hz23).trans (HC2.out g hg))
    have HT4 : Hid (Two B (N + 1) w4 (rc (rc c2 w2.heap.size 1) w3.heap.size 2) p m (relL (x1 % 4) (x2 % 4) L)) := Lib.hid ⟨hT4.lb, hT4.mb, fun g hg => by rw [HC4.out g (by have := hT.bd; omega)]; exact hT.lo g hg, hT4.wl, Nat.le_trans hT.bd HK.out.size⟩
    clear hT4 hz4
    go_wp2
    go_ret
    exact ⟨rfl, _, HT4.out, HK.out, HC4.out⟩
theorem step14_endH (hT : Two B N w c p m L) (hN : N ≤ 100000) (h0 : 0 ≤ x0 ∧ x0 ≤ 255) (h1 : 0 ≤ x1 ∧ x1 ≤ 255) (h2 : 0 ≤ x2 ∧ x2 ≤ 255) (h3 : 0 ≤ x3 ∧ x3 ≤ 255) (hx : x0 % 12 = 1) :
    Calls Try.prog 11 #[.pointer (some ⟨p, 0, none⟩), .pointer (some ⟨m, 0, none⟩), .agg #[.int .u8 x0, .int .u8 x1, .int .u8 x2, .int .u8 x3]] w (StE B N w c p m (endH (x2 % 4) L)) := by
  have hba : Below w.heap.size w (w.alloc (.cells #[.int .u8 x0, .int .u8 x1, .int .u8 x2, .int .u8 x3] 30)) := (Below.refl _ _).alloc (Nat.le_refl _) _
  have HT0 := Lib.hid (hT.go hba)
  have HBA := Lib.hid hba
  have hbx : Bx4 (w.alloc (.cells #[.int .u8 x0, .int .u8 x1, .int .u8 x2, .int .u8 x3] 30)) w.heap.size x0 x1 x2 x3 := heap_alloc_new w _
  have HBX := Lib.hid hbx
  obtain ⟨y0, y1, y2, y3⟩ := hbx.cells
  have e1 := Int.emod_nonneg x1 (show (4 : Int) ≠ 0 by omega)
  have e2 := Int.emod_nonneg x2 (show (4 : Int) ≠ 0 by omega)
  have HR1 := Lib.hid (ri_4 x1)
  generalize hw1 : w.alloc (.cells #[.int .u8 x0, .int .u8 x1, .int .u8 x2, .int .u8 x3] 30) = w1 at *
  clear hba hbx
  go_enter Try.func11, Try.ntmps11
  go_wp2_with fail
  go_quiet (fail)
  have hq : Below w1.heap.size w1 (w1.drewN nq) := below_drewN (Below.refl w1.heap.size w1) nq
  have HT2 := Lib.hid (HT0.out.go hq)
  have HX2 : Hid (Bx4 (w1.drewN nq) w.heap.size x0 x1 x2 x3) := Lib.hid ((hq.block _ (Array.getElem?_eq_some_iff.1 HBX.out).1).trans HBX.out)
  have HC2 : Hid (∀ g, g < w.heap.size → rc (rc c w.heap.size 0) w1.heap.size 0 g = c g) := Lib.hid (fun g hg => by rw [rc_old (by have := HBA.out.size; omega), rc_old hg])
  have HB2 : Hid (Below w.heap.size w (w1.drewN nq)) := Lib.hid (Below.then HBA.out hq (Nat.le_refl _))
  generalize rc (rc c w.heap.size 0) w1.heap.size 0 = c2 at *
  generalize w1.drewN nq = w2 at *
  clear y0 y1 y2 y3 hq HT0 HBA HBX hw1
  obtain ⟨y0, y1, y2, y3⟩ := HX2.out.cells
  have HI := Lib.hid (endHolder_any (h := x2 % 4) HT2.out.lb HT2.out.wl hN)
  go_wp2_with fail
  refine HI.out.mono ?_
  rintro e w3 ⟨rfl, hL3, hk3⟩
  have HL3 := Lib.hid hL3
  have HK3 := Lib.hid hk3
  have HJ := Lib.hid (endHolderR_any (h := x2 % 4) (HT2.out.mid hk3) (by have := HT2.out.wl.len; omega))
  clear HI hL3 hk3
  go_wp2_with fail
  refine HJ.out.mono ?_
  rintro e w4 ⟨rfl, hM4, hk4⟩
  obtain ⟨hT4, hz4⟩ := HT2.out.both HL3.out HK3.out hM4 hk4 (HT2.out.wl.endH.mono (Nat.le_succ N))
  clear hM4 hk4 HJ
  have hz23 := HK3.out.size
  have HK : Hid (Kz c w w4) := Lib.hid ((Kz.ofBelow HB2.out).trans HC2.out hz4)
  have HC4 : Hid (∀ g, g < w.heap.size → rc (rc c2 w2.heap.size 1) w3.heap.size 2 g = c g) := Lib.hid (fun g hg => (both_old (Nat.lt_of_lt_of_le hg HB2.out.size) hz23).trans (HC2.out g hg))
  have HT4 : Hid (Two B (N + 1) w4 (rc (rc c2 w2.heap.size 1) w3.heap.size 2) p m (endH (x2 % 4) L)) := Lib.hid ⟨hT4.lb, hT4.mb, fun g hg => by rw [HC4.out g (by have := hT.bd; omega)]; exact hT.lo g hg, hT4.wl, Nat.le_trans hT.bd HK.out.size⟩
  clear hT4 hz4
  go_wp2
  go_ret
  exact ⟨rfl, _, HT4.out, HK.out, HC4.out⟩
theorem step14_endO (hT : Two B N w c p m L) (hN : N ≤ 100000) (h0 : 0 ≤ x0 ∧ x0 ≤ 255) (h1 : 0 ≤ x1 ∧ x1 ≤ 255) (h2 : 0 ≤ x2 ∧ x2 ≤ 255) (h3 : 0 ≤ x3 ∧ x3 ≤ 255) (hx : x0 % 12 = 0) :
    Calls Try.prog 11 #[.pointer (some ⟨p, 0, none⟩), .pointer (some ⟨m, 0, none⟩), .agg #[.int .u8 x0, .int .u8 x1, .int .u8 x2, .int .u8 x3]] w (StE B N w c p m (endO (x1 % 4) L)) := by
  have hba : Below w.heap.size w (w.alloc (.cells #[.int .u8 x0, .int .u8 x1, .int .u8 x2, .int .u8 x3] 30)) := (Below.refl _ _).alloc (Nat.le_refl _) _
  have HT0 := Lib.hid (hT.go hba)
  have HBA := Lib.hid hba
  have hbx : Bx4 (w.alloc (.cells #[.int .u8 x0, .int .u8 x1, .int .u8 x2, .int .u8 x3] 30)) w.heap.size x0 x1 x2 x3 := heap_alloc_new w _
  have HBX := Lib.hid hbx
  obtain ⟨y0, y1, y2, y3⟩ := hbx.cells
  have e1 := Int.emod_nonneg x1 (show (4 : Int) ≠ 0 by omega)
  have e2 := Int.emod_nonneg x2 (show (4 : Int) ≠ 0 by omega)
  have HR1 := Lib.hid (ri_4 x1)
  generalize hw1 : w.alloc (.cells #[.int .u8 x0, .int .u8 x1, .int .u8 x2, .int .u8 x3] 30) = w1 at *
  clear hba hbx
  go_enter Try.func11, Try.ntmps11
  go_wp2_with fail
  go_quiet (fail)
  have hq : Below w1.heap.size w1 (w1.drewN nq) := below_drewN (Below.refl w1.heap.size w1) nq
  have HT2 := Lib.hid (HT0.out.go hq)
  have HX2 : Hid (Bx4 (w1.drewN nq) w.heap.size x0 x1 x2 x3) := Lib.hid ((hq.block _ (Array.getElem?_eq_some_iff.1 HBX.out).1).trans HBX.out)
  have HC2 : Hid (∀ g, g < w.heap.size → rc (rc c w.heap.size 0) w1.heap.size 0 g = c g) := Lib.hid (fun g hg => by rw [rc_old (by have := HBA.out.size; omega), rc_old hg])
  have HB2 : Hid (Below w.heap.size w (w1.drewN nq)) := Lib.hid (Below.then HBA.out hq (Nat.le_refl _))
  generalize rc (rc c w.heap.size 0) w1.heap.size 0 = c2 at *
  generalize w1.drewN nq = w2 at *
  clear y0 y1 y2 y3 hq HT0 HBA HBX hw1
  obtain ⟨y0, y1, y2, y3⟩ := HX2.out.cells
  have HI := Lib.hid (endObject_any (o := x1 % 4) HT2.out.lb (by have := HT2.out.wl.len; omega) HR1.out HT2.out.wl.ri)
  go_wp2_with fail
  refine HI.out.mono ?_
  rintro e w3 ⟨v3, rfl, ho3, hL3, hk3⟩
  have HL3 := Lib.hid hL3
  have HK3 := Lib.hid hk3
  have HO3 := Lib.hid ho3
  obtain ⟨A3, n3, cap3, rfl, _⟩ := ho3.shape
  have HJ := Lib.hid (endObjectR_any (o := x1 % 4) (HT2.out.mid hk3) (by have := HT2.out.wl.len; omega))
  clear HI hL3 hk3 ho3
  go_wp2_with fail
  refine HJ.out.mono ?_
  rintro e w4 ⟨v4, rfl, ho4, hM4, hk4⟩
  obtain ⟨A4, n4, cap4, rfl, hx4⟩ := ho4.shape
  obtain ⟨_, _, _, e3, hx3⟩ := (row_on HO3.out hk4).shape
  cases e3
  obtain ⟨hT4, hz4⟩ := HT2.out.both HL3.out HK3.out hM4 hk4 (HT2.out.wl.endO.mono (Nat.le_succ N))
  have HS := Lib.hid (sameB_any A3 A4 n3 n4 cap3 cap4 (ofL (x1 % 4) L) w4 hx3 hx4)
  clear hM4 hk4 HJ hx3 hx4 ho4
  have hz23 := HK3.out.size
  have HK : Hid (Kz c w w4) := Lib.hid ((Kz.ofBelow HB2.out).trans HC2.out hz4)
  have HC4 : Hid (∀ g, g < w.heap.size → rc (rc c2 w2.heap.size 1) w3.heap.size 2 g = c g) := Lib.hid (fun g hg => (both_old (Nat.lt_of_lt_of_le hg HB2.out.size) hz23).trans (HC2.out g hg))
  have HT4 : Hid (Two B (N + 1) w4 (rc (rc c2 w2.heap.size 1) w3.heap.size 2) p m (endO (x1 % 4) L)) := Lib.hid ⟨hT4.lb, hT4.mb, fun g hg => by rw [HC4.out g (by have := hT.bd; omega)]; exact hT.lo g hg, hT4.wl, Nat.le_trans hT.bd HK.out.size⟩
  clear hT4 hz4
  go_wp2_with fail
  refine HS.out.mono ?_
  rintro e w5 ⟨rfl, hb5⟩
  have HT5 : Hid (Two B (N + 1) w5 (rc (rc (rc c2 w2.heap.size 1) w3.heap.size 2) w4.heap.size 0) p m (endO (x1 % 4) L)) := Lib.hid (HT4.out.go hb5)
  have HC5 : Hid (∀ g, g < w.heap.size → rc (rc (rc c2 w2.heap.size 1) w3.heap.size 2) w4.heap.size 0 g = c g) := Lib.hid (fun g hg => by rw [rc_old (by have := HK.out.size; omega)]; exact HC4.out g hg)
  have HK5 : Hid (Kz c w w5) := Lib.hid (HK.out.trans HC4.out (Kz.ofBelow hb5))
  clear hb5 HT4 HC4 HK
  have HT4 := HT5
  have HC4 := HC5
  have HK := HK5
  go_wp2
  go_ret
  exact ⟨rfl, _, HT4.out, HK.out, HC4.out⟩
theorem step14_lend (hT : Two B N w c p m L) (hN : N ≤ 100000) (h0 : 0 ≤ x0 ∧ x0 ≤ 255) (h1 : 0 ≤ x1 ∧ x1 ≤ 255) (h2 : 0 ≤ x2 ∧ x2 ≤ 255) (h3 : 0 ≤ x3 ∧ x3 ≤ 255) (hx : 6 ≤ x0 % 12) (hy : ¬ x3 % 4 = 0) :
    Calls Try.prog 11 #[.pointer (some ⟨p, 0, none⟩), .pointer (some ⟨m, 0, none⟩), .agg #[.int .u8 x0, .int .u8 x1, .int .u8 x2, .int .u8 x3]] w (StE B N w c p m (lendL (x1 % 4) (x2 % 4) 1 L)) := by
  have hba : Below w.heap.size w (w.alloc (.cells #[.int .u8 x0, .int .u8 x1, .int .u8 x2, .int .u8 x3] 30)) := (Below.refl _ _).alloc (Nat.le_refl _) _
  have HT0 := Lib.hid (hT.go hba)
  have HBA := Lib.hid hba
  have hbx : Bx4 (w.alloc (.cells #[.int .u8 x0, .int .u8 x1, .int .u8 x2, .int .u8 x3] 30)) w.heap.size x0 x1 x2 x3 := heap_alloc_new w _
  have HBX := Lib.hid hbx
  obtain ⟨y0, y1, y2, y3⟩ := hbx.cells
  have e1 := Int.emod_nonneg x1 (show (4 : Int) ≠ 0 by omega)
  have e2 := Int.emod_nonneg x2 (show (4 : Int) ≠ 0 by omega)
  have HR1 := Lib.hid (ri_4 x1)
  generalize hw1 : w.alloc (.cells #[.int .u8 x0, .int .u8 x1, .int .u8 x2, .int .u8 x3] 30) = w1 at *
  clear hba hbx
  have e12 := Int.emod_nonneg x0 (show (12 : Int) ≠ 0 by omega)
  have k0 : ¬ x0 % 12 = 0 := by omega
  have k1 : ¬ x0 % 12 = 1 := by omega
  have k2 : ¬ x0 % 12 = 2 := by omega
  have k3 : ¬ x0 % 12 = 3 := by omega
  have k4 : ¬ x0 % 12 = 4 := by omega
  have k5 : ¬ x0 % 12 = 5 := by omega
  go_enter Try.func11, Try.ntmps11
  go_wp2_with fail
  go_quiet (fail)
  have hq : Below w1.heap.size w1 (w1.drewN nq) := below_drewN (Below.refl w1.heap.size w1) nq
  have HT2 := Lib.hid (HT0.out.go hq)
  have HX2 : Hid (Bx4 (w1.drewN nq) w.heap.size x0 x1 x2 x3) := Lib.hid ((hq.block _ (Array.getElem?_eq_some_iff.1 HBX.out).1).trans HBX.out)
  have HC2 : Hid (∀ g, g < w.heap.size → rc (rc c w.heap.size 0) w1.heap.size 0 g = c g) := Lib.hid (fun g hg => by rw [rc_old (by have := HBA.out.size; omega), rc_old hg])
  have HB2 : Hid (Below w.heap.size w (w1.drewN nq)) := Lib.hid (Below.then HBA.out hq (Nat.le_refl _))
  generalize rc (rc c w.heap.size 0) w1.heap.size 0 = c2 at *
  generalize w1.drewN nq = w2 at *
  clear y0 y1 y2 y3 hq HT0 HBA HBX hw1
  obtain ⟨y0, y1, y2, y3⟩ := HX2.out.cells
  have HI := Lib.hid (lend_any (o := x1 % 4) (h := x2 % 4) (m := 1) HT2.out.lb HT2.out.wl hN HR1.out)
  go_wp2_with fail
  refine HI.out.mono ?_
  rintro e w3 ⟨rfl, hL3, hk3⟩
  have HL3 := Lib.hid hL3
  have HK3 := Lib.hid hk3
  have HJ := Lib.hid (lendR_any (o := x1 % 4) (h := x2 % 4) (m := 1) (HT2.out.mid hk3) HT2.out.wl hN)
  clear HI hL3 hk3
  go_wp2_with fail
  refine HJ.out.mono ?_
  rintro e w4 ⟨rfl, hM4, hk4⟩
  obtain ⟨hT4, hz4⟩ := HT2.out.both HL3.out HK3.out hM4 hk4 (HT2.out.wl.lend HR1.out)
  clear hM4 hk4 HJ
  have hz23 := HK3.out.size
  have HK : Hid (Kz c w w4) := Lib.hid ((Kz.ofBelow HB2.out).trans HC2.out hz4)
  have HC4 : Hid (∀ g, g < w.heap.size → rc (rc c2 w2.heap.size 1) w3.heap.size 2 g = c g) := Lib.hid (fun g hg => (both_old (Nat.lt_of_lt_of_le hg HB2.out.size) hz23).trans (HC2.out g hg))
  have HT4 : Hid (Two B (N + 1) w4 (rc (rc c2 w2.heap.size 1) w3.heap.size 2) p m (lendL (x1 % 4) (x2 % 4) 1 L)) := Lib.hid ⟨hT4.lb, hT4.mb, fun g hg => by rw [HC4.out g (by have := hT.bd; omega)]; exact hT.lo g hg, hT4.wl, Nat.le_trans hT.bd HK.out.size⟩
  clear hT4 hz4
  go_wp2
  go_ret
  exact ⟨rfl, _, HT4.out, HK.out, HC4.out⟩
theorem step14_lendM (hT : Two B N w c p m L) (hN : N ≤ 100000) (h0 : 0 ≤ x0 ∧ x0 ≤ 255) (h1 : 0 ≤ x1 ∧ x1 ≤ 255) (h2 : 0 ≤ x2 ∧ x2 ≤ 255) (h3 : 0 ≤ x3 ∧ x3 ≤ 255) (hx : 6 ≤ x0 % 12) (hy : x3 % 4 = 0) :
    Calls Try.prog 11 #[.pointer (some ⟨p, 0, none⟩), .pointer (some ⟨m, 0, none⟩), .agg #[.int .u8 x0, .int .u8 x1, .int .u8 x2, .int .u8 x3]] w (StE B N w c p m (lendL (x1 % 4) (x2 % 4) (x3 / 4 % 4) L)) := by
  have hba : Below w.heap.size w (w.alloc (.cells #[.int .u8 x0, .int .u8 x1, .int .u8 x2, .int .u8 x3] 30)) := (Below.refl _ _).alloc (Nat.le_refl _) _
  have HT0 := Lib.hid (hT.go hba)
  have HBA := Lib.hid hba
  have hbx : Bx4 (w.alloc (.cells #[.int .u8 x0, .int .u8 x1, .int .u8 x2, .int .u8 x3] 30)) w.heap.size x0 x1 x2 x3 := heap_alloc_new w _
  have HBX := Lib.hid hbx
  obtain ⟨y0, y1, y2, y3⟩ := hbx.cells
  have e1 := Int.emod_nonneg x1 (show (4 : Int) ≠ 0 by omega)
  have e2 := Int.emod_nonneg x2 (show (4 : Int) ≠ 0 by omega)
  have HR1 := Lib.hid (ri_4 x1)
  generalize hw1 : w.alloc (.cells #[.int .u8 x0, .int .u8 x1, .int .u8 x2, .int .u8 x3] 30) = w1 at *
  clear hba hbx
  have e12 := Int.emod_nonneg x0 (show (12 : Int) ≠ 0 by omega)
  have k0 : ¬ x0 % 12 = 0 := by omega
  have k1 : ¬ x0 % 12 = 1 := by omega
  have k2 : ¬ x0 % 12 = 2 := by omega
  have k3 : ¬ x0 % 12 = 3 := by omega
  have k4 : ¬ x0 % 12 = 4 := by omega
  have k5 : ¬ x0 % 12 = 5 := by omega
  have f1 : 0 ≤ x3 / 4 := by omega
  have f2 : 0 ≤ x3 / 4 % 4 := by omega
  go_enter Try.func11, Try.ntmps11
  go_wp2_with fail
  go_quiet (fail)
  have hq : Below w1.heap.size w1 (w1.drewN nq) := below_drewN (Below.refl w1.heap.size w1) nq
  have HT2 := Lib.hid (HT0.out.go hq)
  have HX2 : Hid (Bx4 (w1.drewN nq) w.heap.size x0 x1 x2 x3) := Lib.hid ((hq.block _ (Array.getElem?_eq_some_iff.1 HBX.out).1).trans HBX.out)
  have HC2 : Hid (∀ g, g < w.heap.size → rc (rc c w.heap.size 0) w1.heap.size 0 g = c g) := Lib.hid (fun g hg => by rw [rc_old (by have := HBA.out.size; omega), rc_old hg])
  have HB2 : Hid (Below w.heap.size w (w1.drewN nq)) := Lib.hid (Below.then HBA.out hq (Nat.le_refl _))
  generalize rc (rc c w.heap.size 0) w1.heap.size 0 = c2 at *
  generalize w1.drewN nq = w2 at *
  clear y0 y1 y2 y3 hq HT0 HBA HBX hw1
  obtain ⟨y0, y1, y2, y3⟩ := HX2.out.cells
  have HI := Lib.hid (lend_any (o := x1 % 4) (h := x2 % 4) (m := x3 / 4 % 4) HT2.out.lb HT2.out.wl hN HR1.out)
  go_wp2_with fail
  refine HI.out.mono ?_
  rintro e w3 ⟨rfl, hL3, hk3⟩
  have HL3 := Lib.hid hL3
  have HK3 := Lib.hid hk3
  have HJ := Lib.hid (lendR_any (o := x1 % 4) (h := x2 % 4) (m := x3 / 4 % 4) (HT2.out.mid hk3) HT2.out.wl hN)
  clear HI hL3 hk3
  go_wp2_with fail
  refine HJ.out.mono ?_
  rintro e w4 ⟨rfl, hM4, hk4⟩
  obtain ⟨hT4, hz4⟩ := HT2.out.both HL3.out HK3.out hM4 hk4 (HT2.out.wl.lend HR1.out)
  clear hM4 hk4 HJ
  have hz23 := HK3.out.size
  have HK : Hid (Kz c w w4) := Lib.hid ((Kz.ofBelow HB2.out).trans HC2.out hz4)
  have HC4 : Hid (∀ g, g < w.heap.size → rc (rc c2 w2.heap.size 1) w3.heap.size 2 g = c g) := Lib.hid (fun g hg => (both_old (Nat.lt_of_lt_of_le hg HB2.out.size) hz23).trans (HC2.out g hg))
  have HT4 : Hid (Two B (N + 1) w4 (rc (rc c2 w2.heap.size 1) w3.heap.size 2) p m (lendL (x1 % 4) (x2 % 4) (x3 / 4 % 4) L)) := Lib.hid ⟨hT4.lb, hT4.mb, fun g hg => by rw [HC4.out g (by have := hT.bd; omega)]; exact hT.lo g hg, hT4.wl, Nat.le_trans hT.bd HK.out.size⟩
  clear hT4 hz4
  go_wp2
  go_ret
  exact ⟨rfl, _, HT4.out, HK.out, HC4.out⟩
theorem step14_any (hT : Two B N w c p m L) (hN : N ≤ 100000) (h0 : 0 ≤ x0 ∧ x0 ≤ 255) (h1 : 0 ≤ x1 ∧ x1 ≤ 255) (h2 : 0 ≤ x2 ∧ x2 ≤ 255) (h3 : 0 ≤ x3 ∧ x3 ≤ 255) :
    Calls Try.prog 11 #[.pointer (some ⟨p, 0, none⟩), .pointer (some ⟨m, 0, none⟩), .agg #[.int .u8 x0, .int .u8 x1, .int .u8 x2, .int .u8 x3]] w (StE B N w c p m (stpL x0 x1 x2 x3 L)) := by
  have e12 := Int.emod_nonneg x0 (show (12 : Int) ≠ 0 by omega)
  have e13 := Int.emod_lt_of_pos x0 (show (0 : Int) < 12 by omega)
  unfold stpL
  split
  · exact step14_endO hT hN h0 h1 h2 h3 (by assumption)
  · split
    · exact step14_endH hT hN h0 h1 h2 h3 (by assumption)
    · split
      · exact step14_rel hT hN h0 h1 h2 h3 (by omega)
      · split
        · exact step14_lendM hT hN h0 h1 h2 h3 (by omega) (by assumption)
        · exact step14_lend hT hN h0 h1 h2 h3 (by omega) (by assumption)
end
end Go.Proofs.Ytmmlelmkgnhofaa
