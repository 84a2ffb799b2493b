/-
  The law BorrowNone as a walk: called with any arguments of its types it returns true. No conditions.
-/
import Derived.Test.YtmmlelmkgnhofaaPvb
import Derived.Deep.CutRange
namespace Go.Proofs.Ytmmlelmkgnhofaa
open Go.ChangeShapes Go.WideShapes Go.RowKit
set_option linter.unusedVariables false
set_option linter.unusedSimpArgs false
set_option maxHeartbeats 8000000
set_option maxRecDepth 100000

theorem borrowNone_walk (o h a2 : Int) (w : World) (w0 : (Lit.int .i64 o).wf = true) (w1 : (Lit.int .i64 h).wf = true) (w2 : (Lit.int .u8 a2).wf = true) :
    Calls Try.prog 9 #[.int .i64 o, .int .i64 h, .int .u8 a2] w fun e w' => e = .returned (.bool true) ∧ Below w.heap.size w w' := by
  have HO : Hid (Ri o) := Lib.hid w0
  have b2 := byte_bd w2
  have e3 := Int.emod_nonneg a2 (show (6 : Int) ≠ 0 by omega)
  clear w0 w1 w2
  go_enter Try.func9, Try.ntmps9
  go_wp2
  have hb1 : Below w.heap.size w (w.alloc (.cells #[.map none] 54)) := (Below.refl _ _).alloc (Nat.le_refl _) _
  have hz1 : (w.alloc (.cells #[.map none] 54)).heap[w.heap.size]? = some (.cells #[.map none] 54 (0, 0)) := heap_alloc_new w _
  have hs1 : (w.alloc (.cells #[.map none] 54)).heap.size = w.heap.size + 1 := by simp
  generalize w.alloc (.cells #[.map none] 54) = wz at *
  have hb2 : Below wz.heap.size wz (wz.alloc (.cells #[.pointer none, .pointer (some ⟨w.heap.size, 0, none⟩)] 23)) := (Below.refl _ _).alloc (Nat.le_refl _) _
  have hs2 : (wz.alloc (.cells #[.pointer none, .pointer (some ⟨w.heap.size, 0, none⟩)] 23)).heap[w.heap.size + 1]? = some (.cells #[.pointer none, .pointer (some ⟨w.heap.size, 0, none⟩)] 23 (0, 0)) := by rw [← hs1]; exact heap_alloc_new wz _
  have HB0 := Lib.hid (Below.then hb1 hb2 (Nat.le_refl _))
  have hz2 := (hb2.block w.heap.size (by omega)).trans hz1
  generalize wz.alloc (.cells #[.pointer none, .pointer (some ⟨w.heap.size, 0, none⟩)] 23) = w1 at *
  have HAT : Hid (∀ k : Nat, k < 2 → ∃ q : Option Addr, w1.cell? ⟨w.heap.size + 1, k, none⟩ = some (.pointer q) ∧ Nq w1 q) := Lib.hid (fun k hk => by
    rcases (by omega : k = 0 ∨ k = 1) with rfl | rfl
    · exact ⟨none, cell_of_row w1 _ 0 _ _ _ hs2, .inl rfl⟩
    · exact ⟨_, cell_of_row w1 _ 1 _ _ _ hs2, .inr ⟨_, rfl, hz2⟩⟩)
  generalize hsb : w.heap.size + 1 = sb at *
  clear hb1 hb2 hz1 hz2 hs1 hs2
  go_loopw [23] (fun kv wr => ∃ k : Nat, k ≤ 2 ∧ kv = .int .i64 k ∧ Hid (Below w1.heap.size w1 wr)) (fun kv _ => 2 - (intOf kv).toNat)
  case atStart => exact ⟨0, by omega, rfl, Lib.hid (Below.refl _ _)⟩
  case round =>
    obtain ⟨k, hk, rfl, hh⟩ := hrel
    have hk0 : (0 : Int) ≤ (k : Int) := by omega
    by_cases hk2 : k < 2
    · have hk1 : (k : Int) < 2 := by omega
      obtain ⟨q, hq1, hq2⟩ := HAT.out k hk2
      have hqc := (hh.out.cell (p := ⟨sb, k, none⟩) (lt_of_some hq1)).trans hq1
      have HQ := Lib.hid (hq2.go hh.out)
      have hb1 : Below wr.heap.size wr (wr.alloc (.cells #[.slice none 0 0] 28)) := (Below.refl _ _).alloc (Nat.le_refl _) _
      have hM : Mlr (wr.alloc (.cells #[.slice none 0 0] 28)) wr.heap.size [] := ⟨none, 0, 0, cell_alloc rfl, Kws.none_⟩
      have HQ1 := Lib.hid (HQ.out.go hb1)
      have HM1 := Lib.hid hM
      have HB1 := Lib.hid (Below.then hh.out hb1 (Nat.le_refl _))
      have HH := Lib.hid (holds_any (o := o) (p := h) HQ1.out.ldq HO.out List.Pairwise.nil (by simp))
      unfold HoE boA at HH
      rw [hasL_nil] at HH
      simp only [boV, Option.isSome_none] at HH
      clear hh hq1 hq2 hb1 hM HQ
      go_wp2_with fail
      generalize wr.alloc (.cells #[.slice none 0 0] 28) = w2 at *
      generalize wr.heap.size = m at *
      refine HH.out.mono ?_
      rintro e w3 ⟨rfl, hb3⟩
      have hb4 : Below w2.heap.size w2 (w3.alloc (.cells #[.int .i64 0, .int .i64 0, .int .i64 0, .int .i64 0] 47)) := hb3.alloc hb3.size _
      have HB4 := Lib.hid (Below.then HB1.out hb4 (Nat.le_refl _))
      have HQ4 := Lib.hid (HQ1.out.go hb4)
      have HM4 := Lib.hid (HM1.out.go hb4)
      have HR := Lib.hid (release_no (o := o) (h := h) HQ4.out.ldq HO.out List.Pairwise.nil (by simp) hasL_nil)
      clear HH HB1 HQ1 HM1 hb3 hb4 hqc
      go_wp2_with fail
      generalize w3.alloc (.cells #[.int .i64 0, .int .i64 0, .int .i64 0, .int .i64 0] 47) = w4 at *
      generalize w3.heap.size = bx at *
      refine HR.out.mono ?_
      rintro e w5 ⟨rfl, hb⟩
      have HB5 := Lib.hid (Below.then HB4.out hb (Nat.le_refl _))
      have HQ5 := Lib.hid (HQ4.out.go hb)
      have HM5 := Lib.hid (HM4.out.go hb)
      clear HR HB4 HQ4 HM4 hb
      have HC := Lib.hid (access_any (p := h) true (a2 % 6) HQ5.out.ldq HO.out List.Pairwise.nil (by simp))
      go_wp2_with fail
      refine HC.out.mono ?_
      rintro e w6 ⟨rfl, hb⟩
      have HB6 := Lib.hid (Below.then HB5.out hb (Nat.le_refl _))
      have HQ6 := Lib.hid (HQ5.out.go hb)
      have HM6 := Lib.hid (HM5.out.go hb)
      clear HC HB5 HQ5 HM5 hb
      have HC := Lib.hid (accR_any (o := o) (pl := h) true (a2 % 6) HM6.out (Wl.nil (N := 0)) (by omega))
      go_wp2_with fail
      refine HC.out.mono ?_
      rintro e w7 ⟨rfl, hb⟩
      have HB7 := Lib.hid (Below.then HB6.out hb (Nat.le_refl _))
      have HQ7 := Lib.hid (HQ6.out.go hb)
      have HM7 := Lib.hid (HM6.out.go hb)
      clear HC HB6 HQ6 HM6 hb
      have HC := Lib.hid (access_any (p := h) false (a2 % 6) HQ7.out.ldq HO.out List.Pairwise.nil (by simp))
      go_wp2_with fail
      refine HC.out.mono ?_
      rintro e w8 ⟨rfl, hb⟩
      have HB8 := Lib.hid (Below.then HB7.out hb (Nat.le_refl _))
      have HQ8 := Lib.hid (HQ7.out.go hb)
      have HM8 := Lib.hid (HM7.out.go hb)
      clear HC HB7 HQ7 HM7 hb
      have HC := Lib.hid (accR_any (o := o) (pl := h) false (a2 % 6) HM8.out (Wl.nil (N := 0)) (by omega))
      go_wp2_with fail
      refine HC.out.mono ?_
      rintro e w9 ⟨rfl, hb⟩
      have HB9 := Lib.hid (Below.then HB8.out hb (Nat.le_refl _))
      have HQ9 := Lib.hid (HQ8.out.go hb)
      have HM9 := Lib.hid (HM8.out.go hb)
      clear HC HB8 HQ8 HM8 hb
      have HC := Lib.hid (of_any (o := o) HQ9.out.ldq HO.out (by simp))
      go_wp2_with fail
      refine HC.out.mono ?_
      rintro e w10 ⟨v, rfl, ho, hb⟩
      have HB10 := Lib.hid (Below.then HB9.out hb (Nat.le_refl _))
      have HQ10 := Lib.hid (HQ9.out.go hb)
      have HM10 := Lib.hid (HM9.out.go hb)
      obtain ⟨A10, n10, c10, rfl, hx⟩ := ho.shape
      obtain rfl : n10 = 0 := hx.len.symm
      clear ho hx
      clear HC HB9 HQ9 HM9 hb
      have HC := Lib.hid (held_any (h := h) HQ10.out.ldq List.Pairwise.nil (by intro x hx; cases hx) (by simp))
      go_wp2_with fail
      refine HC.out.mono ?_
      rintro e w11 ⟨rfl, hb⟩
      have HB11 := Lib.hid (Below.then HB10.out hb (Nat.le_refl _))
      have HQ11 := Lib.hid (HQ10.out.go hb)
      have HM11 := Lib.hid (HM10.out.go hb)
      clear HC HB10 HQ10 HM10 hb
      have HC := Lib.hid (endObject_nil (o := o) HQ11.out HO.out)
      go_wp2_with fail
      refine HC.out.mono ?_
      rintro e w12 ⟨v, rfl, ho, hb⟩
      have HB12 := Lib.hid (Below.then HB11.out hb (Nat.le_refl _))
      have HQ12 := Lib.hid (HQ11.out.go hb)
      have HM12 := Lib.hid (HM11.out.go hb)
      obtain ⟨A12, n12, c12, rfl, hx⟩ := ho.shape
      obtain rfl : n12 = 0 := hx.len.symm
      clear ho hx
      clear HC HB11 HQ11 HM11 hb
      have HC := Lib.hid (endHolder_nil (h := h) HQ12.out)
      go_wp2_with fail
      refine HC.out.mono ?_
      rintro e w13 ⟨rfl, hb⟩
      have HB13 := Lib.hid (Below.then HB12.out hb (Nat.le_refl _))
      have HQ13 := Lib.hid (HQ12.out.go hb)
      have HM13 := Lib.hid (HM12.out.go hb)
      clear HC HB12 HQ12 HM12 hb
      have HC := Lib.hid (listedL_any q [] w13 (by simp) (fun W hb => all_any (HQ13.out.go hb).ldq List.Pairwise.nil (by intro x hx; cases hx) (by simp)))
      go_wp2_with fail
      refine HC.out.mono ?_
      rintro e w14 ⟨v, rfl, ho, hb⟩
      have HB14 := Lib.hid (Below.then HB13.out hb (Nat.le_refl _))
      have HQ14 := Lib.hid (HQ13.out.go hb)
      have HM14 := Lib.hid (HM13.out.go hb)
      obtain ⟨A14, n14, c14, rfl, hx⟩ := ho.shape
      obtain rfl : n14 = 0 := hx.len.symm
      clear ho hx
      clear HC HB13 HQ13 HM13 hb
      go_wp2
      go_roundw
      case rel => exact ⟨k + 1, by omega, by go_num, HB14⟩
      case measure => simp [intOf]; omega
    · have hk1 : ¬ (k : Int) < 2 := by omega
      have hb1 : Below wr.heap.size wr (wr.alloc (.cells #[.map none] 54)) := (Below.refl _ _).alloc (Nat.le_refl _) _
      have HL := Lib.hid (Led.made wr (fun _ => 0) 1)
      have hzr : w.heap.size ≤ wr.heap.size := Nat.le_trans HB0.out.size hh.out.size
      have HB := Lib.hid (Below.then (Below.then HB0.out hh.out (Nat.le_refl _)) hb1 (Nat.le_refl _))
      clear hh hb1
      go_wp2_with fail
      generalize wr.alloc (.cells #[.map none] 54) = w2 at *
      refine (awake14_any w2).mono ?_
      rintro e w3 ⟨rfl, hb⟩
      have HL3 := Lib.hid (HL.out.go hb)
      have HB3 := Lib.hid (Below.then HB.out hb (Nat.le_refl _))
      clear HL HB hb
      go_wp2_with fail
      refine (lend_nil w3 o h 1).mono ?_
      rintro e w4 ⟨rfl, rfl⟩
      have HC := Lib.hid (lend_any (o := o) (h := h) (m := 1) HL3.out (Wl.nil (N := 0)) (by omega) HO.out)
      rw [show lendE o 1 [] = 0 from rfl] at HC
      go_wp2_with fail
      refine HC.out.mono ?_
      rintro e w5 ⟨rfl, _, hk⟩
      have HB5 := Lib.hid (HB3.out.trans (hk.below (B := w.heap.size) (fun g hg => by rw [rc_old (by omega)]; omega) HB3.out.size))
      clear HC hk HL3 HB3
      go_wp2
      go_ret
      exact ⟨rfl, HB5.out⟩
end Go.Proofs.Ytmmlelmkgnhofaa
