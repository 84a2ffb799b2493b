/-
  Contract of the law's step. Conditions: at most 4096 slots; at most 100000 handles seen.
-/
import Derived.Test.YtaoojgnkbcoggaaHtr
namespace Go.Proofs.Ytaoojgnkbcoggaa
open Go.ChangeShapes Go.WideShapes Go.RowKit
set_option linter.unusedVariables false
set_option linter.unusedSimpArgs false
set_option maxHeartbeats 8000000
set_option maxRecDepth 100000

theorem infoHn : (Try.prog.info? 39).map (fun i => (i.zero, i.size, i.bytes)) = some (some (.int .u64 0), 1, 8) := by kernel_rfl
/-- What a step says and leaves. -/
def StE (B N : Nat) (w : World) (p m n : Nat) (e : Ending) (w' : World) : Prop :=
  ∃ A' n' c', e = .returned (.tuple #[.slice A' n' c', .bool true]) ∧ Below B w w' ∧ ∃ cf t' l', Tri B N w' cf p m t' ∧ Evr w' cf A' n' c' l' ∧ n' ≤ n + 1
/-- The box of the step's numbers. -/
def Bx4 (w : World) (b : Nat) (x0 x1 x2 x3 : Int) : Prop := w.heap[b]? = some (.cells #[.int .u16 x0, .int .u16 x1, .int .u16 x2, .int .u16 x3] 36 (0, 0))
theorem Bx4.cells {w : World} {b : Nat} {x0 x1 x2 x3 : Int} (h : Bx4 w b x0 x1 x2 x3) : w.cell? ⟨b, 0, none⟩ = some (.int .u16 x0) ∧ w.cell? ⟨b, 1, none⟩ = some (.int .u16 x1) ∧ w.cell? ⟨b, 2, none⟩ = some (.int .u16 x2) ∧ w.cell? ⟨b, 3, none⟩ = some (.int .u16 x3) :=
  ⟨cell_of_row w b 0 _ _ _ h, cell_of_row w b 1 _ _ _ h, cell_of_row w b 2 _ _ _ h, cell_of_row w b 3 _ _ _ h⟩
theorem step13_drop (B N : Nat) (w : World) (c : Nat → Nat) (p m : Nat) (t : Ht) (x0 x1 x2 x3 f : Int) (A : Option Addr) (n cc : Nat) (l : List Int) (hT : Tri B N w c p m t) (hE : Evr w c A n cc l) (hN : N ≤ 4096) (hn : n ≤ 100000) (h0 : 0 ≤ x0 ∧ x0 ≤ 65535) (h1 : 0 ≤ x1 ∧ x1 ≤ 65535) (h2 : 0 ≤ x2 ∧ x2 ≤ 65535) (h3 : 0 ≤ x3 ∧ x3 ≤ 65535) (hf : 1 ≤ f ∧ f ≤ 4294967295) (hx : x0 % 8 = 4 ∨ x0 % 8 = 5) :
    Calls Try.prog 12 #[.pointer (some ⟨p, 0, none⟩), .pointer (some ⟨m, 0, none⟩), .agg #[.int .u16 x0, .int .u16 x1, .int .u16 x2, .int .u16 x3], .int .i64 f, .slice A n cc] w (StE B N w p m n) := by
  have hba : Below w.heap.size w (w.alloc (.cells #[.int .u16 x0, .int .u16 x1, .int .u16 x2, .int .u16 x3] 36)) := (Below.refl _ _).alloc (Nat.le_refl _) _
  have HT0 := Lib.hid (hT.go hba)
  have HE0 := Lib.hid (hE.go hba (c' := rc c w.heap.size 0) (fun g hg => rc_old hg))
  have HBA := Lib.hid (hba.mono hT.bd)
  have hbx : Bx4 (w.alloc (.cells #[.int .u16 x0, .int .u16 x1, .int .u16 x2, .int .u16 x3] 36)) w.heap.size x0 x1 x2 x3 := heap_alloc_new w _
  have HBX := Lib.hid hbx
  have hc0 : rc c w.heap.size 0 w.heap.size = 0 := rc_new (Nat.le_refl _)
  have HC0 := Lib.hid hc0
  obtain ⟨y0, y1, y2, y3⟩ := hbx.cells
  have HWD := Lib.hid (word13_any x0 x1 x2 x3 f A n cc l _ h0 h1 h2 h3 hf HE0.out.row HE0.out.u64)
  unfold WrE at HWD
  have e8 := Int.emod_nonneg x0 (show (8 : Int) ≠ 0 by omega)
  clear hT hE hba hbx hc0
  rcases hx with hx | hx
  · go_enter Try.func12, Try.ntmps12
    go_wp2_with fail
    generalize w.alloc (.cells #[.int .u16 x0, .int .u16 x1, .int .u16 x2, .int .u16 x3] 36) = w1 at *
    refine HWD.out.mono ?_
    rintro e w2 ⟨h, rfl, hu, hb2⟩
    have HU := Lib.hid hu
    have HT2 := Lib.hid (HT0.out.go hb2)
    have HE2 := Lib.hid (HE0.out.go hb2 (c' := rc (rc c w.heap.size 0) w1.heap.size 0) (fun g hg => rc_old hg))
    have HB2 := Lib.hid (HBA.out.trans (hb2.mono HT0.out.bd))
    have HX2 : Hid (Bx4 w2 w.heap.size x0 x1 x2 x3) := Lib.hid ((hb2.block _ (Array.getElem?_eq_some_iff.1 HBX.out).1).trans HBX.out)
    obtain ⟨z0, z1, z2, z3⟩ := HX2.out.cells
    generalize rc (rc c w.heap.size 0) w1.heap.size 0 = c2 at *
    have HD := Lib.hid (drpT_any w2 c2 1 p N t h HT2.out.tb HT2.out.wf hN HU.out)
    unfold DpE at HD
    have HV : Hid (∀ W C, Hmb W C 2 m t → Calls Try.prog 20 #[.pointer (some ⟨m, 0, none⟩), .int .u64 h] W (DpE Hmb W C 2 m (t.resE h) (t.drpN h))) := Lib.hid (fun W C hM => drpM_any W C 2 m N t h hM HT2.out.wf hN HU.out)
    generalize t.resE h = er at *
    clear hu hb2 HWD HT0 HE0 HBX HC0 y0 y1 y2 y3
    go_wp2_with fail
    refine HD.out.mono ?_
    rintro e w3 ⟨rfl, hT3, hk3⟩
    have HM := Lib.hid (HV.out w3 _ (HT2.out.mid hk3))
    unfold DpE at HM
    have HT3 := Lib.hid hT3
    have HK3 := Lib.hid hk3
    clear hT3 hk3 HD HV
    go_wp2_with fail
    refine HM.out.mono ?_
    rintro e w4 ⟨rfl, hM4, hk4⟩
    obtain ⟨hT4, hz4⟩ := HT2.out.both HT3.out HK3.out hM4 hk4 (HT2.out.wf.drp HU.out)
    have HT4 := Lib.hid hT4
    have HE4 := Lib.hid (HE2.out.kz hz4 (fun g hg => both_old hg HK3.out.size))
    have HB4 := Lib.hid (HB2.out.trans (hz4.below HT2.out.lo HT2.out.bd))
    clear hM4 hk4 hT4 hz4 HM
    go_wp2
    go_ret2
    exact ⟨_, _, _, rfl, HB4.out, _, _, _, HT4.out, HE4.out, by omega⟩
  · go_enter Try.func12, Try.ntmps12
    go_wp2_with fail
    generalize w.alloc (.cells #[.int .u16 x0, .int .u16 x1, .int .u16 x2, .int .u16 x3] 36) = w1 at *
    refine HWD.out.mono ?_
    rintro e w2 ⟨h, rfl, hu, hb2⟩
    have HU := Lib.hid hu
    have HT2 := Lib.hid (HT0.out.go hb2)
    have HE2 := Lib.hid (HE0.out.go hb2 (c' := rc (rc c w.heap.size 0) w1.heap.size 0) (fun g hg => rc_old hg))
    have HB2 := Lib.hid (HBA.out.trans (hb2.mono HT0.out.bd))
    have HX2 : Hid (Bx4 w2 w.heap.size x0 x1 x2 x3) := Lib.hid ((hb2.block _ (Array.getElem?_eq_some_iff.1 HBX.out).1).trans HBX.out)
    obtain ⟨z0, z1, z2, z3⟩ := HX2.out.cells
    generalize rc (rc c w.heap.size 0) w1.heap.size 0 = c2 at *
    have HD := Lib.hid (drpT_any w2 c2 1 p N t h HT2.out.tb HT2.out.wf hN HU.out)
    unfold DpE at HD
    have HV : Hid (∀ W C, Hmb W C 2 m t → Calls Try.prog 20 #[.pointer (some ⟨m, 0, none⟩), .int .u64 h] W (DpE Hmb W C 2 m (t.resE h) (t.drpN h))) := Lib.hid (fun W C hM => drpM_any W C 2 m N t h hM HT2.out.wf hN HU.out)
    generalize t.resE h = er at *
    clear hu hb2 HWD HT0 HE0 HBX HC0 y0 y1 y2 y3
    go_wp2_with fail
    refine HD.out.mono ?_
    rintro e w3 ⟨rfl, hT3, hk3⟩
    have HM := Lib.hid (HV.out w3 _ (HT2.out.mid hk3))
    unfold DpE at HM
    have HT3 := Lib.hid hT3
    have HK3 := Lib.hid hk3
    clear hT3 hk3 HD HV
    go_wp2_with fail
    refine HM.out.mono ?_
    rintro e w4 ⟨rfl, hM4, hk4⟩
    obtain ⟨hT4, hz4⟩ := HT2.out.both HT3.out HK3.out hM4 hk4 (HT2.out.wf.drp HU.out)
    have HT4 := Lib.hid hT4
    have HE4 := Lib.hid (HE2.out.kz hz4 (fun g hg => both_old hg HK3.out.size))
    have HB4 := Lib.hid (HB2.out.trans (hz4.below HT2.out.lo HT2.out.bd))
    clear hM4 hk4 hT4 hz4 HM
    go_wp2
    go_ret2
    exact ⟨_, _, _, rfl, HB4.out, _, _, _, HT4.out, HE4.out, by omega⟩
theorem step13_give (B N : Nat) (w : World) (c : Nat → Nat) (p m : Nat) (t : Ht) (x0 x1 x2 x3 f : Int) (A : Option Addr) (n cc : Nat) (l : List Int) (hT : Tri B N w c p m t) (hE : Evr w c A n cc l) (hN : N ≤ 4096) (hn : n ≤ 100000) (h0 : 0 ≤ x0 ∧ x0 ≤ 65535) (h1 : 0 ≤ x1 ∧ x1 ≤ 65535) (h2 : 0 ≤ x2 ∧ x2 ≤ 65535) (h3 : 0 ≤ x3 ∧ x3 ≤ 65535) (hf : 1 ≤ f ∧ f ≤ 4294967295) (hx : x0 % 8 = 6 ∨ x0 % 8 = 7) :
    Calls Try.prog 12 #[.pointer (some ⟨p, 0, none⟩), .pointer (some ⟨m, 0, none⟩), .agg #[.int .u16 x0, .int .u16 x1, .int .u16 x2, .int .u16 x3], .int .i64 f, .slice A n cc] w (StE B N w p m n) := by
  have hba : Below w.heap.size w (w.alloc (.cells #[.int .u16 x0, .int .u16 x1, .int .u16 x2, .int .u16 x3] 36)) := (Below.refl _ _).alloc (Nat.le_refl _) _
  have HT0 := Lib.hid (hT.go hba)
  have HE0 := Lib.hid (hE.go hba (c' := rc c w.heap.size 0) (fun g hg => rc_old hg))
  have HBA := Lib.hid (hba.mono hT.bd)
  have hbx : Bx4 (w.alloc (.cells #[.int .u16 x0, .int .u16 x1, .int .u16 x2, .int .u16 x3] 36)) w.heap.size x0 x1 x2 x3 := heap_alloc_new w _
  have HBX := Lib.hid hbx
  have hc0 : rc c w.heap.size 0 w.heap.size = 0 := rc_new (Nat.le_refl _)
  have HC0 := Lib.hid hc0
  obtain ⟨y0, y1, y2, y3⟩ := hbx.cells
  have HWD := Lib.hid (word13_any x0 x1 x2 x3 f A n cc l _ h0 h1 h2 h3 hf HE0.out.row HE0.out.u64)
  unfold WrE at HWD
  have e8 := Int.emod_nonneg x0 (show (8 : Int) ≠ 0 by omega)
  clear hT hE hba hbx hc0
  rcases hx with hx | hx
  · go_enter Try.func12, Try.ntmps12
    go_wp2_with fail
    generalize w.alloc (.cells #[.int .u16 x0, .int .u16 x1, .int .u16 x2, .int .u16 x3] 36) = w1 at *
    refine HWD.out.mono ?_
    rintro e w2 ⟨h, rfl, hu, hb2⟩
    have HU := Lib.hid hu
    have HT2 := Lib.hid (HT0.out.go hb2)
    have HE2 := Lib.hid (HE0.out.go hb2 (c' := rc (rc c w.heap.size 0) w1.heap.size 0) (fun g hg => rc_old hg))
    have HB2 := Lib.hid (HBA.out.trans (hb2.mono HT0.out.bd))
    have HX2 : Hid (Bx4 w2 w.heap.size x0 x1 x2 x3) := Lib.hid ((hb2.block _ (Array.getElem?_eq_some_iff.1 HBX.out).1).trans HBX.out)
    obtain ⟨z0, z1, z2, z3⟩ := HX2.out.cells
    generalize rc (rc c w.heap.size 0) w1.heap.size 0 = c2 at *
    have HD := Lib.hid (givT_any w2 c2 1 p N t h (x3 % 70 - 2) HT2.out.tb HT2.out.wf hN HU.out)
    unfold DpE at HD
    have HV : Hid (∀ W C, Hmb W C 2 m t → Calls Try.prog 18 #[.pointer (some ⟨m, 0, none⟩), .int .u64 h, .int .i64 (x3 % 70 - 2)] W (DpE Hmb W C 2 m (t.givE h (x3 % 70 - 2)) (t.givN h (x3 % 70 - 2)))) := Lib.hid (fun W C hM => givM_any W C 2 m N t h (x3 % 70 - 2) hM HT2.out.wf hN HU.out)
    generalize t.givE h (x3 % 70 - 2) = er at *
    clear hu hb2 HWD HT0 HE0 HBX HC0 y0 y1 y2 y3
    go_wp2_with fail
    refine HD.out.mono ?_
    rintro e w3 ⟨rfl, hT3, hk3⟩
    have HM := Lib.hid (HV.out w3 _ (HT2.out.mid hk3))
    unfold DpE at HM
    have HT3 := Lib.hid hT3
    have HK3 := Lib.hid hk3
    clear hT3 hk3 HD HV
    go_wp2_with fail
    refine HM.out.mono ?_
    rintro e w4 ⟨rfl, hM4, hk4⟩
    obtain ⟨hT4, hz4⟩ := HT2.out.both HT3.out HK3.out hM4 hk4 (HT2.out.wf.giv HU.out)
    have HT4 := Lib.hid hT4
    have HE4 := Lib.hid (HE2.out.kz hz4 (fun g hg => both_old hg HK3.out.size))
    have HB4 := Lib.hid (HB2.out.trans (hz4.below HT2.out.lo HT2.out.bd))
    clear hM4 hk4 hT4 hz4 HM
    go_wp2
    go_ret2
    exact ⟨_, _, _, rfl, HB4.out, _, _, _, HT4.out, HE4.out, by omega⟩
  · go_enter Try.func12, Try.ntmps12
    go_wp2_with fail
    generalize w.alloc (.cells #[.int .u16 x0, .int .u16 x1, .int .u16 x2, .int .u16 x3] 36) = w1 at *
    refine HWD.out.mono ?_
    rintro e w2 ⟨h, rfl, hu, hb2⟩
    have HU := Lib.hid hu
    have HT2 := Lib.hid (HT0.out.go hb2)
    have HE2 := Lib.hid (HE0.out.go hb2 (c' := rc (rc c w.heap.size 0) w1.heap.size 0) (fun g hg => rc_old hg))
    have HB2 := Lib.hid (HBA.out.trans (hb2.mono HT0.out.bd))
    have HX2 : Hid (Bx4 w2 w.heap.size x0 x1 x2 x3) := Lib.hid ((hb2.block _ (Array.getElem?_eq_some_iff.1 HBX.out).1).trans HBX.out)
    obtain ⟨z0, z1, z2, z3⟩ := HX2.out.cells
    generalize rc (rc c w.heap.size 0) w1.heap.size 0 = c2 at *
    have HD := Lib.hid (givT_any w2 c2 1 p N t h (x3 % 70 - 2) HT2.out.tb HT2.out.wf hN HU.out)
    unfold DpE at HD
    have HV : Hid (∀ W C, Hmb W C 2 m t → Calls Try.prog 18 #[.pointer (some ⟨m, 0, none⟩), .int .u64 h, .int .i64 (x3 % 70 - 2)] W (DpE Hmb W C 2 m (t.givE h (x3 % 70 - 2)) (t.givN h (x3 % 70 - 2)))) := Lib.hid (fun W C hM => givM_any W C 2 m N t h (x3 % 70 - 2) hM HT2.out.wf hN HU.out)
    generalize t.givE h (x3 % 70 - 2) = er at *
    clear hu hb2 HWD HT0 HE0 HBX HC0 y0 y1 y2 y3
    go_wp2_with fail
    refine HD.out.mono ?_
    rintro e w3 ⟨rfl, hT3, hk3⟩
    have HM := Lib.hid (HV.out w3 _ (HT2.out.mid hk3))
    unfold DpE at HM
    have HT3 := Lib.hid hT3
    have HK3 := Lib.hid hk3
    clear hT3 hk3 HD HV
    go_wp2_with fail
    refine HM.out.mono ?_
    rintro e w4 ⟨rfl, hM4, hk4⟩
    obtain ⟨hT4, hz4⟩ := HT2.out.both HT3.out HK3.out hM4 hk4 (HT2.out.wf.giv HU.out)
    have HT4 := Lib.hid hT4
    have HE4 := Lib.hid (HE2.out.kz hz4 (fun g hg => both_old hg HK3.out.size))
    have HB4 := Lib.hid (HB2.out.trans (hz4.below HT2.out.lo HT2.out.bd))
    clear hM4 hk4 hT4 hz4 HM
    go_wp2
    go_ret2
    exact ⟨_, _, _, rfl, HB4.out, _, _, _, HT4.out, HE4.out, by omega⟩
theorem Ht.issH_u64 {t : Ht} {N : Nat} {o g d : Int} (H : t.Wf N) (hN : N ≤ 4096) : U64 (t.issH o g d) := by
  unfold Ht.issH
  split
  · rename_i he
    obtain ⟨h1, h2, h3⟩ := Ht.issE_ok he
    obtain ⟨_, _, h4, _, h5, h6, _⟩ := H.sl (d := d) h3
    unfold okT at h2
    exact word_bd ⟨by omega, by omega⟩ ⟨by omega, by omega⟩ ⟨by omega, by omega⟩
  · exact ⟨by omega, by omega⟩
theorem step13_iss1 (B N : Nat) (w : World) (c : Nat → Nat) (p m : Nat) (t : Ht) (x0 x1 x2 x3 f : Int) (A : Option Addr) (n cc : Nat) (l : List Int) (hT : Tri B N w c p m t) (hE : Evr w c A n cc l) (hN : N ≤ 4096) (hn : n ≤ 100000) (h0 : 0 ≤ x0 ∧ x0 ≤ 65535) (h1 : 0 ≤ x1 ∧ x1 ≤ 65535) (h2 : 0 ≤ x2 ∧ x2 ≤ 65535) (h3 : 0 ≤ x3 ∧ x3 ≤ 65535) (hf : 1 ≤ f ∧ f ≤ 4294967295) (hx : x0 % 8 = 0 ∨ x0 % 8 = 1 ∨ x0 % 8 = 2 ∨ x0 % 8 = 3) (hy : x3 % 16 < 14) :
    Calls Try.prog 12 #[.pointer (some ⟨p, 0, none⟩), .pointer (some ⟨m, 0, none⟩), .agg #[.int .u16 x0, .int .u16 x1, .int .u16 x2, .int .u16 x3], .int .i64 f, .slice A n cc] w (StE B N w p m n) := by
  obtain ⟨i0, hi, hz0, hz1, hz2⟩ := info_parts infoHn
  have HI := Lib.hid hi
  have HZ := Lib.hid hz0
  have hba : Below w.heap.size w (w.alloc (.cells #[.int .u16 x0, .int .u16 x1, .int .u16 x2, .int .u16 x3] 36)) := (Below.refl _ _).alloc (Nat.le_refl _) _
  have hbb : Below w.heap.size w ((w.alloc (.cells #[.int .u16 x0, .int .u16 x1, .int .u16 x2, .int .u16 x3] 36)).alloc (.cells #[.int .i64 x3, .int .i64 16] 42)) := hba.alloc hba.size _
  have hsz : (w.alloc (.cells #[.int .u16 x0, .int .u16 x1, .int .u16 x2, .int .u16 x3] 36)).heap.size = w.heap.size + 1 := by simp
  have hsz2 : ((w.alloc (.cells #[.int .u16 x0, .int .u16 x1, .int .u16 x2, .int .u16 x3] 36)).alloc (.cells #[.int .i64 x3, .int .i64 16] 42)).heap.size = w.heap.size + 2 := by simp
  have HT0 := Lib.hid (hT.go hbb)
  have HE0 := Lib.hid (hE.go hbb (c' := rc c w.heap.size 0) (fun g hg => rc_old hg))
  have HBA := Lib.hid (hbb.mono hT.bd)
  have hbx : Bx4 ((w.alloc (.cells #[.int .u16 x0, .int .u16 x1, .int .u16 x2, .int .u16 x3] 36)).alloc (.cells #[.int .i64 x3, .int .i64 16] 42)) w.heap.size x0 x1 x2 x3 := (Below.heap_alloc (w.alloc (.cells #[.int .u16 x0, .int .u16 x1, .int .u16 x2, .int .u16 x3] 36)) _ w.heap.size (by simp)).trans (heap_alloc_new w _)
  have hax : ExB ((w.alloc (.cells #[.int .u16 x0, .int .u16 x1, .int .u16 x2, .int .u16 x3] 36)).alloc (.cells #[.int .i64 x3, .int .i64 16] 42)) (w.heap.size + 1) x3 16 := by
    have := heap_alloc_new (w.alloc (.cells #[.int .u16 x0, .int .u16 x1, .int .u16 x2, .int .u16 x3] 36)) (.cells #[.int .i64 x3, .int .i64 16] 42)
    rw [hsz] at this
    exact this
  have HBX := Lib.hid hbx
  have HAX := Lib.hid hax
  obtain ⟨y0, y1, y2, y3⟩ := hbx.cells
  obtain ⟨a0, a1⟩ := hax.cells
  obtain ⟨o, ho⟩ : ∃ o : Int, 1 + x1 % 3 = o := ⟨_, rfl⟩
  obtain ⟨g, hg⟩ : ∃ g : Int, 1 + x2 % 3 = g := ⟨_, rfl⟩
  have e8 := Int.emod_nonneg x0 (show (8 : Int) ≠ 0 by omega)
  have e16 := Int.emod_nonneg x3 (show (16 : Int) ≠ 0 by omega)
  have HWF := Lib.hid (HT0.out.wf.iss (o := o) (g := g) (f := x3) (l := 16) (d := x3))
  have HU : Hid (U64 (t.issH o g x3)) := Lib.hid (Ht.issH_u64 HT0.out.wf hN)
  generalize hhv : t.issH o g x3 = hv at *
  generalize her : t.issE o g = er at *
  have HHV := Lib.hid (And.intro hhv her)
  clear hT hE hba hbb hbx hax hi hz0 hhv her
  by_cases hr : er = 0
  · rcases hx with hx | hx | hx | hx
    · subst hr
      go_enter Try.func12, Try.ntmps12
      go_wp2_with fail
      generalize (w.alloc (.cells #[.int .u16 x0, .int .u16 x1, .int .u16 x2, .int .u16 x3] 36)).alloc (.cells #[.int .i64 x3, .int .i64 16] 42) = w1 at *
      have k1 : ∀ z : Later w1, z.val.cell? ⟨w.heap.size, 1, none⟩ = some (.int .u16 x1) := fun z => later_old z y1
      have k2 : ∀ z : Later w1, z.val.cell? ⟨w.heap.size, 2, none⟩ = some (.int .u16 x2) := fun z => later_old z y2
      have k3 : ∀ z : Later w1, z.val.cell? ⟨w.heap.size, 3, none⟩ = some (.int .u16 x3) := fun z => later_old z y3
      refine wp_region_later (by kernel_rfl) (by kernel_rfl) ?_
      repeat (go_big_quiet_step (fail))
      refine wpQuiet_nil ?_
      rintro w6 ⟨⟨_, hq⟩, rfl⟩
      replace y1 := (hq.cell (p := ⟨w.heap.size, 1, none⟩) (lt_of_some y1)).trans y1
      replace y2 := (hq.cell (p := ⟨w.heap.size, 2, none⟩) (lt_of_some y2)).trans y2
      replace y3 := (hq.cell (p := ⟨w.heap.size, 3, none⟩) (lt_of_some y3)).trans y3
      replace a0 := (hq.cell (p := ⟨w.heap.size + 1, 0, none⟩) (lt_of_some a0)).trans a0
      replace a1 := (hq.cell (p := ⟨w.heap.size + 1, 1, none⟩) (lt_of_some a1)).trans a1
      have HQ := Lib.hid hq
      clear hq k1 k2 k3
      have HQ6 := HQ
      clear HQ
      go_wp2_with fail
      have k1 : ∀ z : Later w6, z.val.cell? ⟨w.heap.size, 1, none⟩ = some (.int .u16 x1) := fun z => later_old z y1
      have k2 : ∀ z : Later w6, z.val.cell? ⟨w.heap.size, 2, none⟩ = some (.int .u16 x2) := fun z => later_old z y2
      have k3 : ∀ z : Later w6, z.val.cell? ⟨w.heap.size, 3, none⟩ = some (.int .u16 x3) := fun z => later_old z y3
      refine wp_region_later (by kernel_rfl) (by kernel_rfl) ?_
      repeat (go_big_quiet_step (fail))
      refine wpQuiet_nil ?_
      rintro w5 ⟨⟨_, hq6⟩, rfl⟩
      replace y1 := (hq6.cell (p := ⟨w.heap.size, 1, none⟩) (lt_of_some y1)).trans y1
      replace y2 := (hq6.cell (p := ⟨w.heap.size, 2, none⟩) (lt_of_some y2)).trans y2
      replace y3 := (hq6.cell (p := ⟨w.heap.size, 3, none⟩) (lt_of_some y3)).trans y3
      replace a0 := (hq6.cell (p := ⟨w.heap.size + 1, 0, none⟩) (lt_of_some a0)).trans a0
      replace a1 := (hq6.cell (p := ⟨w.heap.size + 1, 1, none⟩) (lt_of_some a1)).trans a1
      have HQ := Lib.hid (Below.then HQ6.out hq6 (Nat.le_refl _))
      clear hq6 k1 k2 k3
      have HT5 := Lib.hid (HT0.out.go HQ.out)
      have HE5 := Lib.hid (HE0.out.go HQ.out (c' := rc (rc c w.heap.size 0) w1.heap.size 0) (fun g hg => rc_old hg))
      have HB5 := Lib.hid (HBA.out.trans (HQ.out.mono HT0.out.bd))
      have HC5 : Hid (rc (rc c w.heap.size 0) w1.heap.size 0 w.heap.size = 0 ∧ rc (rc c w.heap.size 0) w1.heap.size 0 (w.heap.size + 1) = 0) := Lib.hid ⟨by rw [rc_old (by omega)]; exact rc_new (Nat.le_refl _), by rw [rc_old (by omega)]; exact rc_new (by omega)⟩
      have hzq := HQ.out.size
      generalize rc (rc c w.heap.size 0) w1.heap.size 0 = c5 at *
      have HS := Lib.hid (issT_any w5 c5 1 p N t o g x3 16 x3 HT5.out.tb HT5.out.wf hN (by omega))
      unfold IsE at HS
      have HV : Hid (∀ W C, Hmb W C 2 m t → Calls Try.prog 30 #[.pointer (some ⟨m, 0, none⟩), .int .i64 o, .int .i64 g, .agg #[.int .i64 x3, .int .i64 16], .int .u64 x3] W (IsE Hmb W C 2 m t o g x3 16 x3)) := Lib.hid (fun W C hM => issM13_any W C 2 m N t o g x3 16 x3 hM HT5.out.wf hN (by omega))
      rw [HHV.out.1, HHV.out.2] at HS
      go_wp2_with fail
      refine HS.out.mono ?_
      rintro e w3 ⟨rfl, hT3, hk3⟩
      have hk3z := Kz.ofKept hk3 (by omega)
      have z3 := hk3z.cell HC5.out.1 y3
      have b0 := hk3z.cell HC5.out.2 a0
      have b1 := hk3z.cell HC5.out.2 a1
      have HM := Lib.hid (HV.out w3 _ (HT5.out.mid hk3))
      unfold IsE at HM
      rw [HHV.out.1, HHV.out.2] at HM
      have HT3 := Lib.hid hT3
      have HK3 := Lib.hid hk3
      clear hT3 hk3 hk3z HS HV y0 y1 y2 y3 a0 a1
      go_wp2_with fail
      refine HM.out.mono ?_
      rintro e w4 ⟨rfl, hM4, hk4⟩
      obtain ⟨hT4, hz4⟩ := HT5.out.both HT3.out HK3.out hM4 hk4 HWF.out
      have HT4 := Lib.hid hT4
      have HE4 := Lib.hid (HE5.out.kz hz4 (fun g hg => both_old hg HK3.out.size))
      have HB4 := Lib.hid (HB5.out.trans (hz4.below HT5.out.lo HT5.out.bd))
      clear hM4 hk4 hT4 hz4 HM z3 b0 b1
      generalize rc (rc c5 w5.heap.size 1) w3.heap.size 2 = c4 at *
      have hba : Below w4.heap.size w4 (w4.alloc (.cells #[] 39)) := (Below.refl _ _).alloc (Nat.le_refl _) _
      have HBA4 := Lib.hid hba
      have hza : (w4.alloc (.cells #[] 39)).heap.size = w4.heap.size + 1 := by simp
      have ho1 : OwnK han1 39 (w4.alloc (.cells #[] 39)) w4.heap.size (.slice (some ⟨w4.heap.size, 0, none⟩) 0 0) [] := World.ownsRow_made _ #[] 0 (Nat.le_refl _) (Nat.zero_le _) rfl
      have HO1 := Lib.hid ho1
      have HK4 := Lib.hid (HE4.out.row.alloc (.cells #[] 39))
      have HL4 := Lib.hid HE4.out.row.len
      clear hba ho1
      go_wp2_with (at_builtin; go_must (first
        | (refine wpList_appK _ rfl (.tmp 94) (.tmp 95) 32 rfl Try.underlying32 HI.out HZ.out rfl hz1 (by omega) HO1.out rfl HK4.out rfl (by simp; omega) (by omega) ?_
           intro v12 w12 ho12 hb12 hg12
           rw [List.nil_append] at ho12
           obtain ⟨A12, n12, c12, rfl, hx12⟩ := ho12.shape
           have HN12 : Hid (n12 = n) := Lib.hid (hx12.len.symm.trans HL4.out)
           have HB12 := Lib.hid (HBA4.out.trans hb12)
           have HO12 := Lib.hid (ho12.alloc (.cells #[.int .u64 hv] 39))
           have HY12 : Hid (Kws han1 (w12.alloc (.cells #[.int .u64 hv] 39)) (w12.heap.size + 1) (some ⟨w12.heap.size, 0, none⟩) 1 1 [hv]) := Lib.hid (Kws.new (E := han1) w12 [hv] _ _ 1 rfl rfl (by unfold maxLen; omega))
           have hz12 := HB12.out.size
           clear ho12 hb12 hg12 hx12)
        | (refine wpList_appK _ rfl (.tmp 96) (.tmp 98) 32 rfl Try.underlying32 HI.out HZ.out rfl hz1 (by omega) HO12.out rfl HY12.out rfl (by have := HL4.out; omega) (by simp; omega) ?_
           intro v14 w14 ho14 hb14 hg14
           obtain ⟨A14, n14, c14, rfl, hx14⟩ := ho14.shape
           have HBE := Lib.hid ((HB12.out.alloc hz12 (.cells #[.int .u64 hv] 39)).trans hb14)
           have HO14 := Lib.hid ho14
           have HX14 := Lib.hid hx14
           have HN14 : Hid (n14 = n + 1) := Lib.hid (by have h1 := hx14.len; rw [List.length_append, HL4.out] at h1; simpa using h1.symm)
           clear ho14 hb14 hg14 hx14)))
      go_ret2
      refine ⟨_, _, _, rfl, HB4.out.trans (HBE.out.mono HT4.out.bd), _, _, _, HT4.out.go HBE.out, ⟨HX14.out, fun _ a ha => ?_, fun x hx => ?_⟩, by have := HN14.out; omega⟩
      · cases ha
        exact rc_new (HO14.out.ge rfl).1
      · rcases List.mem_append.1 hx with hx | hx
        · exact HE4.out.u64 x hx
        · obtain rfl := List.mem_singleton.1 hx
          exact HU.out
    · subst hr
      go_enter Try.func12, Try.ntmps12
      go_wp2_with fail
      generalize (w.alloc (.cells #[.int .u16 x0, .int .u16 x1, .int .u16 x2, .int .u16 x3] 36)).alloc (.cells #[.int .i64 x3, .int .i64 16] 42) = w1 at *
      have k1 : ∀ z : Later w1, z.val.cell? ⟨w.heap.size, 1, none⟩ = some (.int .u16 x1) := fun z => later_old z y1
      have k2 : ∀ z : Later w1, z.val.cell? ⟨w.heap.size, 2, none⟩ = some (.int .u16 x2) := fun z => later_old z y2
      have k3 : ∀ z : Later w1, z.val.cell? ⟨w.heap.size, 3, none⟩ = some (.int .u16 x3) := fun z => later_old z y3
      refine wp_region_later (by kernel_rfl) (by kernel_rfl) ?_
      repeat (go_big_quiet_step (fail))
      refine wpQuiet_nil ?_
      rintro w6 ⟨⟨_, hq⟩, rfl⟩
      replace y1 := (hq.cell (p := ⟨w.heap.size, 1, none⟩) (lt_of_some y1)).trans y1
      replace y2 := (hq.cell (p := ⟨w.heap.size, 2, none⟩) (lt_of_some y2)).trans y2
      replace y3 := (hq.cell (p := ⟨w.heap.size, 3, none⟩) (lt_of_some y3)).trans y3
      replace a0 := (hq.cell (p := ⟨w.heap.size + 1, 0, none⟩) (lt_of_some a0)).trans a0
      replace a1 := (hq.cell (p := ⟨w.heap.size + 1, 1, none⟩) (lt_of_some a1)).trans a1
      have HQ := Lib.hid hq
      clear hq k1 k2 k3
      have HQ6 := HQ
      clear HQ
      go_wp2_with fail
      have k1 : ∀ z : Later w6, z.val.cell? ⟨w.heap.size, 1, none⟩ = some (.int .u16 x1) := fun z => later_old z y1
      have k2 : ∀ z : Later w6, z.val.cell? ⟨w.heap.size, 2, none⟩ = some (.int .u16 x2) := fun z => later_old z y2
      have k3 : ∀ z : Later w6, z.val.cell? ⟨w.heap.size, 3, none⟩ = some (.int .u16 x3) := fun z => later_old z y3
      refine wp_region_later (by kernel_rfl) (by kernel_rfl) ?_
      repeat (go_big_quiet_step (fail))
      refine wpQuiet_nil ?_
      rintro w5 ⟨⟨_, hq6⟩, rfl⟩
      replace y1 := (hq6.cell (p := ⟨w.heap.size, 1, none⟩) (lt_of_some y1)).trans y1
      replace y2 := (hq6.cell (p := ⟨w.heap.size, 2, none⟩) (lt_of_some y2)).trans y2
      replace y3 := (hq6.cell (p := ⟨w.heap.size, 3, none⟩) (lt_of_some y3)).trans y3
      replace a0 := (hq6.cell (p := ⟨w.heap.size + 1, 0, none⟩) (lt_of_some a0)).trans a0
      replace a1 := (hq6.cell (p := ⟨w.heap.size + 1, 1, none⟩) (lt_of_some a1)).trans a1
      have HQ := Lib.hid (Below.then HQ6.out hq6 (Nat.le_refl _))
      clear hq6 k1 k2 k3
      have HT5 := Lib.hid (HT0.out.go HQ.out)
      have HE5 := Lib.hid (HE0.out.go HQ.out (c' := rc (rc c w.heap.size 0) w1.heap.size 0) (fun g hg => rc_old hg))
      have HB5 := Lib.hid (HBA.out.trans (HQ.out.mono HT0.out.bd))
      have HC5 : Hid (rc (rc c w.heap.size 0) w1.heap.size 0 w.heap.size = 0 ∧ rc (rc c w.heap.size 0) w1.heap.size 0 (w.heap.size + 1) = 0) := Lib.hid ⟨by rw [rc_old (by omega)]; exact rc_new (Nat.le_refl _), by rw [rc_old (by omega)]; exact rc_new (by omega)⟩
      have hzq := HQ.out.size
      generalize rc (rc c w.heap.size 0) w1.heap.size 0 = c5 at *
      have HS := Lib.hid (issT_any w5 c5 1 p N t o g x3 16 x3 HT5.out.tb HT5.out.wf hN (by omega))
      unfold IsE at HS
      have HV : Hid (∀ W C, Hmb W C 2 m t → Calls Try.prog 30 #[.pointer (some ⟨m, 0, none⟩), .int .i64 o, .int .i64 g, .agg #[.int .i64 x3, .int .i64 16], .int .u64 x3] W (IsE Hmb W C 2 m t o g x3 16 x3)) := Lib.hid (fun W C hM => issM13_any W C 2 m N t o g x3 16 x3 hM HT5.out.wf hN (by omega))
      rw [HHV.out.1, HHV.out.2] at HS
      go_wp2_with fail
      refine HS.out.mono ?_
      rintro e w3 ⟨rfl, hT3, hk3⟩
      have hk3z := Kz.ofKept hk3 (by omega)
      have z3 := hk3z.cell HC5.out.1 y3
      have b0 := hk3z.cell HC5.out.2 a0
      have b1 := hk3z.cell HC5.out.2 a1
      have HM := Lib.hid (HV.out w3 _ (HT5.out.mid hk3))
      unfold IsE at HM
      rw [HHV.out.1, HHV.out.2] at HM
      have HT3 := Lib.hid hT3
      have HK3 := Lib.hid hk3
      clear hT3 hk3 hk3z HS HV y0 y1 y2 y3 a0 a1
      go_wp2_with fail
      refine HM.out.mono ?_
      rintro e w4 ⟨rfl, hM4, hk4⟩
      obtain ⟨hT4, hz4⟩ := HT5.out.both HT3.out HK3.out hM4 hk4 HWF.out
      have HT4 := Lib.hid hT4
      have HE4 := Lib.hid (HE5.out.kz hz4 (fun g hg => both_old hg HK3.out.size))
      have HB4 := Lib.hid (HB5.out.trans (hz4.below HT5.out.lo HT5.out.bd))
      clear hM4 hk4 hT4 hz4 HM z3 b0 b1
      generalize rc (rc c5 w5.heap.size 1) w3.heap.size 2 = c4 at *
      have hba : Below w4.heap.size w4 (w4.alloc (.cells #[] 39)) := (Below.refl _ _).alloc (Nat.le_refl _) _
      have HBA4 := Lib.hid hba
      have hza : (w4.alloc (.cells #[] 39)).heap.size = w4.heap.size + 1 := by simp
      have ho1 : OwnK han1 39 (w4.alloc (.cells #[] 39)) w4.heap.size (.slice (some ⟨w4.heap.size, 0, none⟩) 0 0) [] := World.ownsRow_made _ #[] 0 (Nat.le_refl _) (Nat.zero_le _) rfl
      have HO1 := Lib.hid ho1
      have HK4 := Lib.hid (HE4.out.row.alloc (.cells #[] 39))
      have HL4 := Lib.hid HE4.out.row.len
      clear hba ho1
      go_wp2_with (at_builtin; go_must (first
        | (refine wpList_appK _ rfl (.tmp 94) (.tmp 95) 32 rfl Try.underlying32 HI.out HZ.out rfl hz1 (by omega) HO1.out rfl HK4.out rfl (by simp; omega) (by omega) ?_
           intro v12 w12 ho12 hb12 hg12
           rw [List.nil_append] at ho12
           obtain ⟨A12, n12, c12, rfl, hx12⟩ := ho12.shape
           have HN12 : Hid (n12 = n) := Lib.hid (hx12.len.symm.trans HL4.out)
           have HB12 := Lib.hid (HBA4.out.trans hb12)
           have HO12 := Lib.hid (ho12.alloc (.cells #[.int .u64 hv] 39))
           have HY12 : Hid (Kws han1 (w12.alloc (.cells #[.int .u64 hv] 39)) (w12.heap.size + 1) (some ⟨w12.heap.size, 0, none⟩) 1 1 [hv]) := Lib.hid (Kws.new (E := han1) w12 [hv] _ _ 1 rfl rfl (by unfold maxLen; omega))
           have hz12 := HB12.out.size
           clear ho12 hb12 hg12 hx12)
        | (refine wpList_appK _ rfl (.tmp 96) (.tmp 98) 32 rfl Try.underlying32 HI.out HZ.out rfl hz1 (by omega) HO12.out rfl HY12.out rfl (by have := HL4.out; omega) (by simp; omega) ?_
           intro v14 w14 ho14 hb14 hg14
           obtain ⟨A14, n14, c14, rfl, hx14⟩ := ho14.shape
           have HBE := Lib.hid ((HB12.out.alloc hz12 (.cells #[.int .u64 hv] 39)).trans hb14)
           have HO14 := Lib.hid ho14
           have HX14 := Lib.hid hx14
           have HN14 : Hid (n14 = n + 1) := Lib.hid (by have h1 := hx14.len; rw [List.length_append, HL4.out] at h1; simpa using h1.symm)
           clear ho14 hb14 hg14 hx14)))
      go_ret2
      refine ⟨_, _, _, rfl, HB4.out.trans (HBE.out.mono HT4.out.bd), _, _, _, HT4.out.go HBE.out, ⟨HX14.out, fun _ a ha => ?_, fun x hx => ?_⟩, by have := HN14.out; omega⟩
      · cases ha
        exact rc_new (HO14.out.ge rfl).1
      · rcases List.mem_append.1 hx with hx | hx
        · exact HE4.out.u64 x hx
        · obtain rfl := List.mem_singleton.1 hx
          exact HU.out
    · subst hr
      go_enter Try.func12, Try.ntmps12
      go_wp2_with fail
      generalize (w.alloc (.cells #[.int .u16 x0, .int .u16 x1, .int .u16 x2, .int .u16 x3] 36)).alloc (.cells #[.int .i64 x3, .int .i64 16] 42) = w1 at *
      have k1 : ∀ z : Later w1, z.val.cell? ⟨w.heap.size, 1, none⟩ = some (.int .u16 x1) := fun z => later_old z y1
      have k2 : ∀ z : Later w1, z.val.cell? ⟨w.heap.size, 2, none⟩ = some (.int .u16 x2) := fun z => later_old z y2
      have k3 : ∀ z : Later w1, z.val.cell? ⟨w.heap.size, 3, none⟩ = some (.int .u16 x3) := fun z => later_old z y3
      refine wp_region_later (by kernel_rfl) (by kernel_rfl) ?_
      repeat (go_big_quiet_step (fail))
      refine wpQuiet_nil ?_
      rintro w6 ⟨⟨_, hq⟩, rfl⟩
      replace y1 := (hq.cell (p := ⟨w.heap.size, 1, none⟩) (lt_of_some y1)).trans y1
      replace y2 := (hq.cell (p := ⟨w.heap.size, 2, none⟩) (lt_of_some y2)).trans y2
      replace y3 := (hq.cell (p := ⟨w.heap.size, 3, none⟩) (lt_of_some y3)).trans y3
      replace a0 := (hq.cell (p := ⟨w.heap.size + 1, 0, none⟩) (lt_of_some a0)).trans a0
      replace a1 := (hq.cell (p := ⟨w.heap.size + 1, 1, none⟩) (lt_of_some a1)).trans a1
      have HQ := Lib.hid hq
      clear hq k1 k2 k3
      have HQ6 := HQ
      clear HQ
      go_wp2_with fail
      have k1 : ∀ z : Later w6, z.val.cell? ⟨w.heap.size, 1, none⟩ = some (.int .u16 x1) := fun z => later_old z y1
      have k2 : ∀ z : Later w6, z.val.cell? ⟨w.heap.size, 2, none⟩ = some (.int .u16 x2) := fun z => later_old z y2
      have k3 : ∀ z : Later w6, z.val.cell? ⟨w.heap.size, 3, none⟩ = some (.int .u16 x3) := fun z => later_old z y3
      refine wp_region_later (by kernel_rfl) (by kernel_rfl) ?_
      repeat (go_big_quiet_step (fail))
      refine wpQuiet_nil ?_
      rintro w5 ⟨⟨_, hq6⟩, rfl⟩
      replace y1 := (hq6.cell (p := ⟨w.heap.size, 1, none⟩) (lt_of_some y1)).trans y1
      replace y2 := (hq6.cell (p := ⟨w.heap.size, 2, none⟩) (lt_of_some y2)).trans y2
      replace y3 := (hq6.cell (p := ⟨w.heap.size, 3, none⟩) (lt_of_some y3)).trans y3
      replace a0 := (hq6.cell (p := ⟨w.heap.size + 1, 0, none⟩) (lt_of_some a0)).trans a0
      replace a1 := (hq6.cell (p := ⟨w.heap.size + 1, 1, none⟩) (lt_of_some a1)).trans a1
      have HQ := Lib.hid (Below.then HQ6.out hq6 (Nat.le_refl _))
      clear hq6 k1 k2 k3
      have HT5 := Lib.hid (HT0.out.go HQ.out)
      have HE5 := Lib.hid (HE0.out.go HQ.out (c' := rc (rc c w.heap.size 0) w1.heap.size 0) (fun g hg => rc_old hg))
      have HB5 := Lib.hid (HBA.out.trans (HQ.out.mono HT0.out.bd))
      have HC5 : Hid (rc (rc c w.heap.size 0) w1.heap.size 0 w.heap.size = 0 ∧ rc (rc c w.heap.size 0) w1.heap.size 0 (w.heap.size + 1) = 0) := Lib.hid ⟨by rw [rc_old (by omega)]; exact rc_new (Nat.le_refl _), by rw [rc_old (by omega)]; exact rc_new (by omega)⟩
      have hzq := HQ.out.size
      generalize rc (rc c w.heap.size 0) w1.heap.size 0 = c5 at *
      have HS := Lib.hid (issT_any w5 c5 1 p N t o g x3 16 x3 HT5.out.tb HT5.out.wf hN (by omega))
      unfold IsE at HS
      have HV : Hid (∀ W C, Hmb W C 2 m t → Calls Try.prog 30 #[.pointer (some ⟨m, 0, none⟩), .int .i64 o, .int .i64 g, .agg #[.int .i64 x3, .int .i64 16], .int .u64 x3] W (IsE Hmb W C 2 m t o g x3 16 x3)) := Lib.hid (fun W C hM => issM13_any W C 2 m N t o g x3 16 x3 hM HT5.out.wf hN (by omega))
      rw [HHV.out.1, HHV.out.2] at HS
      go_wp2_with fail
      refine HS.out.mono ?_
      rintro e w3 ⟨rfl, hT3, hk3⟩
      have hk3z := Kz.ofKept hk3 (by omega)
      have z3 := hk3z.cell HC5.out.1 y3
      have b0 := hk3z.cell HC5.out.2 a0
      have b1 := hk3z.cell HC5.out.2 a1
      have HM := Lib.hid (HV.out w3 _ (HT5.out.mid hk3))
      unfold IsE at HM
      rw [HHV.out.1, HHV.out.2] at HM
      have HT3 := Lib.hid hT3
      have HK3 := Lib.hid hk3
      clear hT3 hk3 hk3z HS HV y0 y1 y2 y3 a0 a1
      go_wp2_with fail
      refine HM.out.mono ?_
      rintro e w4 ⟨rfl, hM4, hk4⟩
      obtain ⟨hT4, hz4⟩ := HT5.out.both HT3.out HK3.out hM4 hk4 HWF.out
      have HT4 := Lib.hid hT4
      have HE4 := Lib.hid (HE5.out.kz hz4 (fun g hg => both_old hg HK3.out.size))
      have HB4 := Lib.hid (HB5.out.trans (hz4.below HT5.out.lo HT5.out.bd))
      clear hM4 hk4 hT4 hz4 HM z3 b0 b1
      generalize rc (rc c5 w5.heap.size 1) w3.heap.size 2 = c4 at *
      have hba : Below w4.heap.size w4 (w4.alloc (.cells #[] 39)) := (Below.refl _ _).alloc (Nat.le_refl _) _
      have HBA4 := Lib.hid hba
      have hza : (w4.alloc (.cells #[] 39)).heap.size = w4.heap.size + 1 := by simp
      have ho1 : OwnK han1 39 (w4.alloc (.cells #[] 39)) w4.heap.size (.slice (some ⟨w4.heap.size, 0, none⟩) 0 0) [] := World.ownsRow_made _ #[] 0 (Nat.le_refl _) (Nat.zero_le _) rfl
      have HO1 := Lib.hid ho1
      have HK4 := Lib.hid (HE4.out.row.alloc (.cells #[] 39))
      have HL4 := Lib.hid HE4.out.row.len
      clear hba ho1
      go_wp2_with (at_builtin; go_must (first
        | (refine wpList_appK _ rfl (.tmp 94) (.tmp 95) 32 rfl Try.underlying32 HI.out HZ.out rfl hz1 (by omega) HO1.out rfl HK4.out rfl (by simp; omega) (by omega) ?_
           intro v12 w12 ho12 hb12 hg12
           rw [List.nil_append] at ho12
           obtain ⟨A12, n12, c12, rfl, hx12⟩ := ho12.shape
           have HN12 : Hid (n12 = n) := Lib.hid (hx12.len.symm.trans HL4.out)
           have HB12 := Lib.hid (HBA4.out.trans hb12)
           have HO12 := Lib.hid (ho12.alloc (.cells #[.int .u64 hv] 39))
           have HY12 : Hid (Kws han1 (w12.alloc (.cells #[.int .u64 hv] 39)) (w12.heap.size + 1) (some ⟨w12.heap.size, 0, none⟩) 1 1 [hv]) := Lib.hid (Kws.new (E := han1) w12 [hv] _ _ 1 rfl rfl (by unfold maxLen; omega))
           have hz12 := HB12.out.size
           clear ho12 hb12 hg12 hx12)
        | (refine wpList_appK _ rfl (.tmp 96) (.tmp 98) 32 rfl Try.underlying32 HI.out HZ.out rfl hz1 (by omega) HO12.out rfl HY12.out rfl (by have := HL4.out; omega) (by simp; omega) ?_
           intro v14 w14 ho14 hb14 hg14
           obtain ⟨A14, n14, c14, rfl, hx14⟩ := ho14.shape
           have HBE := Lib.hid ((HB12.out.alloc hz12 (.cells #[.int .u64 hv] 39)).trans hb14)
           have HO14 := Lib.hid ho14
           have HX14 := Lib.hid hx14
           have HN14 : Hid (n14 = n + 1) := Lib.hid (by have h1 := hx14.len; rw [List.length_append, HL4.out] at h1; simpa using h1.symm)
           clear ho14 hb14 hg14 hx14)))
      go_ret2
      refine ⟨_, _, _, rfl, HB4.out.trans (HBE.out.mono HT4.out.bd), _, _, _, HT4.out.go HBE.out, ⟨HX14.out, fun _ a ha => ?_, fun x hx => ?_⟩, by have := HN14.out; omega⟩
      · cases ha
        exact rc_new (HO14.out.ge rfl).1
      · rcases List.mem_append.1 hx with hx | hx
        · exact HE4.out.u64 x hx
        · obtain rfl := List.mem_singleton.1 hx
          exact HU.out
    · subst hr
      go_enter Try.func12, Try.ntmps12
      go_wp2_with fail
      generalize (w.alloc (.cells #[.int .u16 x0, .int .u16 x1, .int .u16 x2, .int .u16 x3] 36)).alloc (.cells #[.int .i64 x3, .int .i64 16] 42) = w1 at *
      have k1 : ∀ z : Later w1, z.val.cell? ⟨w.heap.size, 1, none⟩ = some (.int .u16 x1) := fun z => later_old z y1
      have k2 : ∀ z : Later w1, z.val.cell? ⟨w.heap.size, 2, none⟩ = some (.int .u16 x2) := fun z => later_old z y2
      have k3 : ∀ z : Later w1, z.val.cell? ⟨w.heap.size, 3, none⟩ = some (.int .u16 x3) := fun z => later_old z y3
      refine wp_region_later (by kernel_rfl) (by kernel_rfl) ?_
      repeat (go_big_quiet_step (fail))
      refine wpQuiet_nil ?_
      rintro w6 ⟨⟨_, hq⟩, rfl⟩
      replace y1 := (hq.cell (p := ⟨w.heap.size, 1, none⟩) (lt_of_some y1)).trans y1
      replace y2 := (hq.cell (p := ⟨w.heap.size, 2, none⟩) (lt_of_some y2)).trans y2
      replace y3 := (hq.cell (p := ⟨w.heap.size, 3, none⟩) (lt_of_some y3)).trans y3
      replace a0 := (hq.cell (p := ⟨w.heap.size + 1, 0, none⟩) (lt_of_some a0)).trans a0
      replace a1 := (hq.cell (p := ⟨w.heap.size + 1, 1, none⟩) (lt_of_some a1)).trans a1
      have HQ := Lib.hid hq
      clear hq k1 k2 k3
      have HQ6 := HQ
      clear HQ
      go_wp2_with fail
      have k1 : ∀ z : Later w6, z.val.cell? ⟨w.heap.size, 1, none⟩ = some (.int .u16 x1) := fun z => later_old z y1
      have k2 : ∀ z : Later w6, z.val.cell? ⟨w.heap.size, 2, none⟩ = some (.int .u16 x2) := fun z => later_old z y2
      have k3 : ∀ z : Later w6, z.val.cell? ⟨w.heap.size, 3, none⟩ = some (.int .u16 x3) := fun z => later_old z y3
      refine wp_region_later (by kernel_rfl) (by kernel_rfl) ?_
      repeat (go_big_quiet_step (fail))
      refine wpQuiet_nil ?_
      rintro w5 ⟨⟨_, hq6⟩, rfl⟩
      replace y1 := (hq6.cell (p := ⟨w.heap.size, 1, none⟩) (lt_of_some y1)).trans y1
      replace y2 := (hq6.cell (p := ⟨w.heap.size, 2, none⟩) (lt_of_some y2)).trans y2
      replace y3 := (hq6.cell (p := ⟨w.heap.size, 3, none⟩) (lt_of_some y3)).trans y3
      replace a0 := (hq6.cell (p := ⟨w.heap.size + 1, 0, none⟩) (lt_of_some a0)).trans a0
      replace a1 := (hq6.cell (p := ⟨w.heap.size + 1, 1, none⟩) (lt_of_some a1)).trans a1
      have HQ := Lib.hid (Below.then HQ6.out hq6 (Nat.le_refl _))
      clear hq6 k1 k2 k3
      have HT5 := Lib.hid (HT0.out.go HQ.out)
      have HE5 := Lib.hid (HE0.out.go HQ.out (c' := rc (rc c w.heap.size 0) w1.heap.size 0) (fun g hg => rc_old hg))
      have HB5 := Lib.hid (HBA.out.trans (HQ.out.mono HT0.out.bd))
      have HC5 : Hid (rc (rc c w.heap.size 0) w1.heap.size 0 w.heap.size = 0 ∧ rc (rc c w.heap.size 0) w1.heap.size 0 (w.heap.size + 1) = 0) := Lib.hid ⟨by rw [rc_old (by omega)]; exact rc_new (Nat.le_refl _), by rw [rc_old (by omega)]; exact rc_new (by omega)⟩
      have hzq := HQ.out.size
      generalize rc (rc c w.heap.size 0) w1.heap.size 0 = c5 at *
      have HS := Lib.hid (issT_any w5 c5 1 p N t o g x3 16 x3 HT5.out.tb HT5.out.wf hN (by omega))
      unfold IsE at HS
      have HV : Hid (∀ W C, Hmb W C 2 m t → Calls Try.prog 30 #[.pointer (some ⟨m, 0, none⟩), .int .i64 o, .int .i64 g, .agg #[.int .i64 x3, .int .i64 16], .int .u64 x3] W (IsE Hmb W C 2 m t o g x3 16 x3)) := Lib.hid (fun W C hM => issM13_any W C 2 m N t o g x3 16 x3 hM HT5.out.wf hN (by omega))
      rw [HHV.out.1, HHV.out.2] at HS
      go_wp2_with fail
      refine HS.out.mono ?_
      rintro e w3 ⟨rfl, hT3, hk3⟩
      have hk3z := Kz.ofKept hk3 (by omega)
      have z3 := hk3z.cell HC5.out.1 y3
      have b0 := hk3z.cell HC5.out.2 a0
      have b1 := hk3z.cell HC5.out.2 a1
      have HM := Lib.hid (HV.out w3 _ (HT5.out.mid hk3))
      unfold IsE at HM
      rw [HHV.out.1, HHV.out.2] at HM
      have HT3 := Lib.hid hT3
      have HK3 := Lib.hid hk3
      clear hT3 hk3 hk3z HS HV y0 y1 y2 y3 a0 a1
      go_wp2_with fail
      refine HM.out.mono ?_
      rintro e w4 ⟨rfl, hM4, hk4⟩
      obtain ⟨hT4, hz4⟩ := HT5.out.both HT3.out HK3.out hM4 hk4 HWF.out
      have HT4 := Lib.hid hT4
      have HE4 := Lib.hid (HE5.out.kz hz4 (fun g hg => both_old hg HK3.out.size))
      have HB4 := Lib.hid (HB5.out.trans (hz4.below HT5.out.lo HT5.out.bd))
      clear hM4 hk4 hT4 hz4 HM z3 b0 b1
      generalize rc (rc c5 w5.heap.size 1) w3.heap.size 2 = c4 at *
      have hba : Below w4.heap.size w4 (w4.alloc (.cells #[] 39)) := (Below.refl _ _).alloc (Nat.le_refl _) _
      have HBA4 := Lib.hid hba
      have hza : (w4.alloc (.cells #[] 39)).heap.size = w4.heap.size + 1 := by simp
      have ho1 : OwnK han1 39 (w4.alloc (.cells #[] 39)) w4.heap.size (.slice (some ⟨w4.heap.size, 0, none⟩) 0 0) [] := World.ownsRow_made _ #[] 0 (Nat.le_refl _) (Nat.zero_le _) rfl
      have HO1 := Lib.hid ho1
      have HK4 := Lib.hid (HE4.out.row.alloc (.cells #[] 39))
      have HL4 := Lib.hid HE4.out.row.len
      clear hba ho1
      go_wp2_with (at_builtin; go_must (first
        | (refine wpList_appK _ rfl (.tmp 94) (.tmp 95) 32 rfl Try.underlying32 HI.out HZ.out rfl hz1 (by omega) HO1.out rfl HK4.out rfl (by simp; omega) (by omega) ?_
           intro v12 w12 ho12 hb12 hg12
           rw [List.nil_append] at ho12
           obtain ⟨A12, n12, c12, rfl, hx12⟩ := ho12.shape
           have HN12 : Hid (n12 = n) := Lib.hid (hx12.len.symm.trans HL4.out)
           have HB12 := Lib.hid (HBA4.out.trans hb12)
           have HO12 := Lib.hid (ho12.alloc (.cells #[.int .u64 hv] 39))
           have HY12 : Hid (Kws han1 (w12.alloc (.cells #[.int .u64 hv] 39)) (w12.heap.size + 1) (some ⟨w12.heap.size, 0, none⟩) 1 1 [hv]) := Lib.hid (Kws.new (E := han1) w12 [hv] _ _ 1 rfl rfl (by unfold maxLen; omega))
           have hz12 := HB12.out.size
           clear ho12 hb12 hg12 hx12)
        | (refine wpList_appK _ rfl (.tmp 96) (.tmp 98) 32 rfl Try.underlying32 HI.out HZ.out rfl hz1 (by omega) HO12.out rfl HY12.out rfl (by have := HL4.out; omega) (by simp; omega) ?_
           intro v14 w14 ho14 hb14 hg14
           obtain ⟨A14, n14, c14, rfl, hx14⟩ := ho14.shape
           have HBE := Lib.hid ((HB12.out.alloc hz12 (.cells #[.int .u64 hv] 39)).trans hb14)
           have HO14 := Lib.hid ho14
           have HX14 := Lib.hid hx14
           have HN14 : Hid (n14 = n + 1) := Lib.hid (by have h1 := hx14.len; rw [List.length_append, HL4.out] at h1; simpa using h1.symm)
           clear ho14 hb14 hg14 hx14)))
      go_ret2
      refine ⟨_, _, _, rfl, HB4.out.trans (HBE.out.mono HT4.out.bd), _, _, _, HT4.out.go HBE.out, ⟨HX14.out, fun _ a ha => ?_, fun x hx => ?_⟩, by have := HN14.out; omega⟩
      · cases ha
        exact rc_new (HO14.out.ge rfl).1
      · rcases List.mem_append.1 hx with hx | hx
        · exact HE4.out.u64 x hx
        · obtain rfl := List.mem_singleton.1 hx
          exact HU.out
  · rcases hx with hx | hx | hx | hx
    · have erb : (er == 0) = false := by simpa using hr
      go_enter Try.func12, Try.ntmps12
      go_wp2_with fail
      generalize (w.alloc (.cells #[.int .u16 x0, .int .u16 x1, .int .u16 x2, .int .u16 x3] 36)).alloc (.cells #[.int .i64 x3, .int .i64 16] 42) = w1 at *
      have k1 : ∀ z : Later w1, z.val.cell? ⟨w.heap.size, 1, none⟩ = some (.int .u16 x1) := fun z => later_old z y1
      have k2 : ∀ z : Later w1, z.val.cell? ⟨w.heap.size, 2, none⟩ = some (.int .u16 x2) := fun z => later_old z y2
      have k3 : ∀ z : Later w1, z.val.cell? ⟨w.heap.size, 3, none⟩ = some (.int .u16 x3) := fun z => later_old z y3
      refine wp_region_later (by kernel_rfl) (by kernel_rfl) ?_
      repeat (go_big_quiet_step (fail))
      refine wpQuiet_nil ?_
      rintro w6 ⟨⟨_, hq⟩, rfl⟩
      replace y1 := (hq.cell (p := ⟨w.heap.size, 1, none⟩) (lt_of_some y1)).trans y1
      replace y2 := (hq.cell (p := ⟨w.heap.size, 2, none⟩) (lt_of_some y2)).trans y2
      replace y3 := (hq.cell (p := ⟨w.heap.size, 3, none⟩) (lt_of_some y3)).trans y3
      replace a0 := (hq.cell (p := ⟨w.heap.size + 1, 0, none⟩) (lt_of_some a0)).trans a0
      replace a1 := (hq.cell (p := ⟨w.heap.size + 1, 1, none⟩) (lt_of_some a1)).trans a1
      have HQ := Lib.hid hq
      clear hq k1 k2 k3
      have HQ6 := HQ
      clear HQ
      go_wp2_with fail
      have k1 : ∀ z : Later w6, z.val.cell? ⟨w.heap.size, 1, none⟩ = some (.int .u16 x1) := fun z => later_old z y1
      have k2 : ∀ z : Later w6, z.val.cell? ⟨w.heap.size, 2, none⟩ = some (.int .u16 x2) := fun z => later_old z y2
      have k3 : ∀ z : Later w6, z.val.cell? ⟨w.heap.size, 3, none⟩ = some (.int .u16 x3) := fun z => later_old z y3
      refine wp_region_later (by kernel_rfl) (by kernel_rfl) ?_
      repeat (go_big_quiet_step (fail))
      refine wpQuiet_nil ?_
      rintro w5 ⟨⟨_, hq6⟩, rfl⟩
      replace y1 := (hq6.cell (p := ⟨w.heap.size, 1, none⟩) (lt_of_some y1)).trans y1
      replace y2 := (hq6.cell (p := ⟨w.heap.size, 2, none⟩) (lt_of_some y2)).trans y2
      replace y3 := (hq6.cell (p := ⟨w.heap.size, 3, none⟩) (lt_of_some y3)).trans y3
      replace a0 := (hq6.cell (p := ⟨w.heap.size + 1, 0, none⟩) (lt_of_some a0)).trans a0
      replace a1 := (hq6.cell (p := ⟨w.heap.size + 1, 1, none⟩) (lt_of_some a1)).trans a1
      have HQ := Lib.hid (Below.then HQ6.out hq6 (Nat.le_refl _))
      clear hq6 k1 k2 k3
      have HT5 := Lib.hid (HT0.out.go HQ.out)
      have HE5 := Lib.hid (HE0.out.go HQ.out (c' := rc (rc c w.heap.size 0) w1.heap.size 0) (fun g hg => rc_old hg))
      have HB5 := Lib.hid (HBA.out.trans (HQ.out.mono HT0.out.bd))
      have HC5 : Hid (rc (rc c w.heap.size 0) w1.heap.size 0 w.heap.size = 0 ∧ rc (rc c w.heap.size 0) w1.heap.size 0 (w.heap.size + 1) = 0) := Lib.hid ⟨by rw [rc_old (by omega)]; exact rc_new (Nat.le_refl _), by rw [rc_old (by omega)]; exact rc_new (by omega)⟩
      have hzq := HQ.out.size
      generalize rc (rc c w.heap.size 0) w1.heap.size 0 = c5 at *
      have HS := Lib.hid (issT_any w5 c5 1 p N t o g x3 16 x3 HT5.out.tb HT5.out.wf hN (by omega))
      unfold IsE at HS
      have HV : Hid (∀ W C, Hmb W C 2 m t → Calls Try.prog 30 #[.pointer (some ⟨m, 0, none⟩), .int .i64 o, .int .i64 g, .agg #[.int .i64 x3, .int .i64 16], .int .u64 x3] W (IsE Hmb W C 2 m t o g x3 16 x3)) := Lib.hid (fun W C hM => issM13_any W C 2 m N t o g x3 16 x3 hM HT5.out.wf hN (by omega))
      rw [HHV.out.1, HHV.out.2] at HS
      go_wp2_with fail
      refine HS.out.mono ?_
      rintro e w3 ⟨rfl, hT3, hk3⟩
      have hk3z := Kz.ofKept hk3 (by omega)
      have z3 := hk3z.cell HC5.out.1 y3
      have b0 := hk3z.cell HC5.out.2 a0
      have b1 := hk3z.cell HC5.out.2 a1
      have HM := Lib.hid (HV.out w3 _ (HT5.out.mid hk3))
      unfold IsE at HM
      rw [HHV.out.1, HHV.out.2] at HM
      have HT3 := Lib.hid hT3
      have HK3 := Lib.hid hk3
      clear hT3 hk3 hk3z HS HV y0 y1 y2 y3 a0 a1
      go_wp2_with fail
      refine HM.out.mono ?_
      rintro e w4 ⟨rfl, hM4, hk4⟩
      obtain ⟨hT4, hz4⟩ := HT5.out.both HT3.out HK3.out hM4 hk4 HWF.out
      have HT4 := Lib.hid hT4
      have HE4 := Lib.hid (HE5.out.kz hz4 (fun g hg => both_old hg HK3.out.size))
      have HB4 := Lib.hid (HB5.out.trans (hz4.below HT5.out.lo HT5.out.bd))
      clear hM4 hk4 hT4 hz4 HM z3 b0 b1
      generalize rc (rc c5 w5.heap.size 1) w3.heap.size 2 = c4 at *
      go_wp2
      go_ret2
      exact ⟨_, _, _, rfl, HB4.out, _, _, _, HT4.out, HE4.out, by omega⟩
    · have erb : (er == 0) = false := by simpa using hr
      go_enter Try.func12, Try.ntmps12
      go_wp2_with fail
      generalize (w.alloc (.cells #[.int .u16 x0, .int .u16 x1, .int .u16 x2, .int .u16 x3] 36)).alloc (.cells #[.int .i64 x3, .int .i64 16] 42) = w1 at *
      have k1 : ∀ z : Later w1, z.val.cell? ⟨w.heap.size, 1, none⟩ = some (.int .u16 x1) := fun z => later_old z y1
      have k2 : ∀ z : Later w1, z.val.cell? ⟨w.heap.size, 2, none⟩ = some (.int .u16 x2) := fun z => later_old z y2
      have k3 : ∀ z : Later w1, z.val.cell? ⟨w.heap.size, 3, none⟩ = some (.int .u16 x3) := fun z => later_old z y3
      refine wp_region_later (by kernel_rfl) (by kernel_rfl) ?_
      repeat (go_big_quiet_step (fail))
      refine wpQuiet_nil ?_
      rintro w6 ⟨⟨_, hq⟩, rfl⟩
      replace y1 := (hq.cell (p := ⟨w.heap.size, 1, none⟩) (lt_of_some y1)).trans y1
      replace y2 := (hq.cell (p := ⟨w.heap.size, 2, none⟩) (lt_of_some y2)).trans y2
      replace y3 := (hq.cell (p := ⟨w.heap.size, 3, none⟩) (lt_of_some y3)).trans y3
      replace a0 := (hq.cell (p := ⟨w.heap.size + 1, 0, none⟩) (lt_of_some a0)).trans a0
      replace a1 := (hq.cell (p := ⟨w.heap.size + 1, 1, none⟩) (lt_of_some a1)).trans a1
      have HQ := Lib.hid hq
      clear hq k1 k2 k3
      have HQ6 := HQ
      clear HQ
      go_wp2_with fail
      have k1 : ∀ z : Later w6, z.val.cell? ⟨w.heap.size, 1, none⟩ = some (.int .u16 x1) := fun z => later_old z y1
      have k2 : ∀ z : Later w6, z.val.cell? ⟨w.heap.size, 2, none⟩ = some (.int .u16 x2) := fun z => later_old z y2
      have k3 : ∀ z : Later w6, z.val.cell? ⟨w.heap.size, 3, none⟩ = some (.int .u16 x3) := fun z => later_old z y3
      refine wp_region_later (by kernel_rfl) (by kernel_rfl) ?_
      repeat (go_big_quiet_step (fail))
      refine wpQuiet_nil ?_
      rintro w5 ⟨⟨_, hq6⟩, rfl⟩
      replace y1 := (hq6.cell (p := ⟨w.heap.size, 1, none⟩) (lt_of_some y1)).trans y1
      replace y2 := (hq6.cell (p := ⟨w.heap.size, 2, none⟩) (lt_of_some y2)).trans y2
      replace y3 := (hq6.cell (p := ⟨w.heap.size, 3, none⟩) (lt_of_some y3)).trans y3
      replace a0 := (hq6.cell (p := ⟨w.heap.size + 1, 0, none⟩) (lt_of_some a0)).trans a0
      replace a1 := (hq6.cell (p := ⟨w.heap.size + 1, 1, none⟩) (lt_of_some a1)).trans a1
      have HQ := Lib.hid (Below.then HQ6.out hq6 (Nat.le_refl _))
      clear hq6 k1 k2 k3
      have HT5 := Lib.hid (HT0.out.go HQ.out)
      have HE5 := Lib.hid (HE0.out.go HQ.out (c' := rc (rc c w.heap.size 0) w1.heap.size 0) (fun g hg => rc_old hg))
      have HB5 := Lib.hid (HBA.out.trans (HQ.out.mono HT0.out.bd))
      have HC5 : Hid (rc (rc c w.heap.size 0) w1.heap.size 0 w.heap.size = 0 ∧ rc (rc c w.heap.size 0) w1.heap.size 0 (w.heap.size + 1) = 0) := Lib.hid ⟨by rw [rc_old (by omega)]; exact rc_new (Nat.le_refl _), by rw [rc_old (by omega)]; exact rc_new (by omega)⟩
      have hzq := HQ.out.size
      generalize rc (rc c w.heap.size 0) w1.heap.size 0 = c5 at *
      have HS := Lib.hid (issT_any w5 c5 1 p N t o g x3 16 x3 HT5.out.tb HT5.out.wf hN (by omega))
      unfold IsE at HS
      have HV : Hid (∀ W C, Hmb W C 2 m t → Calls Try.prog 30 #[.pointer (some ⟨m, 0, none⟩), .int .i64 o, .int .i64 g, .agg #[.int .i64 x3, .int .i64 16], .int .u64 x3] W (IsE Hmb W C 2 m t o g x3 16 x3)) := Lib.hid (fun W C hM => issM13_any W C 2 m N t o g x3 16 x3 hM HT5.out.wf hN (by omega))
      rw [HHV.out.1, HHV.out.2] at HS
      go_wp2_with fail
      refine HS.out.mono ?_
      rintro e w3 ⟨rfl, hT3, hk3⟩
      have hk3z := Kz.ofKept hk3 (by omega)
      have z3 := hk3z.cell HC5.out.1 y3
      have b0 := hk3z.cell HC5.out.2 a0
      have b1 := hk3z.cell HC5.out.2 a1
      have HM := Lib.hid (HV.out w3 _ (HT5.out.mid hk3))
      unfold IsE at HM
      rw [HHV.out.1, HHV.out.2] at HM
      have HT3 := Lib.hid hT3
      have HK3 := Lib.hid hk3
      clear hT3 hk3 hk3z HS HV y0 y1 y2 y3 a0 a1
      go_wp2_with fail
      refine HM.out.mono ?_
      rintro e w4 ⟨rfl, hM4, hk4⟩
      obtain ⟨hT4, hz4⟩ := HT5.out.both HT3.out HK3.out hM4 hk4 HWF.out
      have HT4 := Lib.hid hT4
      have HE4 := Lib.hid (HE5.out.kz hz4 (fun g hg => both_old hg HK3.out.size))
      have HB4 := Lib.hid (HB5.out.trans (hz4.below HT5.out.lo HT5.out.bd))
      clear hM4 hk4 hT4 hz4 HM z3 b0 b1
      generalize rc (rc c5 w5.heap.size 1) w3.heap.size 2 = c4 at *
      go_wp2
      go_ret2
      exact ⟨_, _, _, rfl, HB4.out, _, _, _, HT4.out, HE4.out, by omega⟩
    · have erb : (er == 0) = false := by simpa using hr
      go_enter Try.func12, Try.ntmps12
      go_wp2_with fail
      generalize (w.alloc (.cells #[.int .u16 x0, .int .u16 x1, .int .u16 x2, .int .u16 x3] 36)).alloc (.cells #[.int .i64 x3, .int .i64 16] 42) = w1 at *
      have k1 : ∀ z : Later w1, z.val.cell? ⟨w.heap.size, 1, none⟩ = some (.int .u16 x1) := fun z => later_old z y1
      have k2 : ∀ z : Later w1, z.val.cell? ⟨w.heap.size, 2, none⟩ = some (.int .u16 x2) := fun z => later_old z y2
      have k3 : ∀ z : Later w1, z.val.cell? ⟨w.heap.size, 3, none⟩ = some (.int .u16 x3) := fun z => later_old z y3
      refine wp_region_later (by kernel_rfl) (by kernel_rfl) ?_
      repeat (go_big_quiet_step (fail))
      refine wpQuiet_nil ?_
      rintro w6 ⟨⟨_, hq⟩, rfl⟩
      replace y1 := (hq.cell (p := ⟨w.heap.size, 1, none⟩) (lt_of_some y1)).trans y1
      replace y2 := (hq.cell (p := ⟨w.heap.size, 2, none⟩) (lt_of_some y2)).trans y2
      replace y3 := (hq.cell (p := ⟨w.heap.size, 3, none⟩) (lt_of_some y3)).trans y3
      replace a0 := (hq.cell (p := ⟨w.heap.size + 1, 0, none⟩) (lt_of_some a0)).trans a0
      replace a1 := (hq.cell (p := ⟨w.heap.size + 1, 1, none⟩) (lt_of_some a1)).trans a1
      have HQ := Lib.hid hq
      clear hq k1 k2 k3
      have HQ6 := HQ
      clear HQ
      go_wp2_with fail
      have k1 : ∀ z : Later w6, z.val.cell? ⟨w.heap.size, 1, none⟩ = some (.int .u16 x1) := fun z => later_old z y1
      have k2 : ∀ z : Later w6, z.val.cell? ⟨w.heap.size, 2, none⟩ = some (.int .u16 x2) := fun z => later_old z y2
      have k3 : ∀ z : Later w6, z.val.cell? ⟨w.heap.size, 3, none⟩ = some (.int .u16 x3) := fun z => later_old z y3
      refine wp_region_later (by kernel_rfl) (by kernel_rfl) ?_
      repeat (go_big_quiet_step (fail))
      refine wpQuiet_nil ?_
      rintro w5 ⟨⟨_, hq6⟩, rfl⟩
      replace y1 := (hq6.cell (p := ⟨w.heap.size, 1, none⟩) (lt_of_some y1)).trans y1
      replace y2 := (hq6.cell (p := ⟨w.heap.size, 2, none⟩) (lt_of_some y2)).trans y2
      replace y3 := (hq6.cell (p := ⟨w.heap.size, 3, none⟩) (lt_of_some y3)).trans y3
      replace a0 := (hq6.cell (p := ⟨w.heap.size + 1, 0, none⟩) (lt_of_some a0)).trans a0
      replace a1 := (hq6.cell (p := ⟨w.heap.size + 1, 1, none⟩) (lt_of_some a1)).trans a1
      have HQ := Lib.hid (Below.then HQ6.out hq6 (Nat.le_refl _))
      clear hq6 k1 k2 k3
      have HT5 := Lib.hid (HT0.out.go HQ.out)
      have HE5 := Lib.hid (HE0.out.go HQ.out (c' := rc (rc c w.heap.size 0) w1.heap.size 0) (fun g hg => rc_old hg))
      have HB5 := Lib.hid (HBA.out.trans (HQ.out.mono HT0.out.bd))
      have HC5 : Hid (rc (rc c w.heap.size 0) w1.heap.size 0 w.heap.size = 0 ∧ rc (rc c w.heap.size 0) w1.heap.size 0 (w.heap.size + 1) = 0) := Lib.hid ⟨by rw [rc_old (by omega)]; exact rc_new (Nat.le_refl _), by rw [rc_old (by omega)]; exact rc_new (by omega)⟩
      have hzq := HQ.out.size
      generalize rc (rc c w.heap.size 0) w1.heap.size 0 = c5 at *
      have HS := Lib.hid (issT_any w5 c5 1 p N t o g x3 16 x3 HT5.out.tb HT5.out.wf hN (by omega))
      unfold IsE at HS
      have HV : Hid (∀ W C, Hmb W C 2 m t → Calls Try.prog 30 #[.pointer (some ⟨m, 0, none⟩), .int .i64 o, .int .i64 g, .agg #[.int .i64 x3, .int .i64 16], .int .u64 x3] W (IsE Hmb W C 2 m t o g x3 16 x3)) := Lib.hid (fun W C hM => issM13_any W C 2 m N t o g x3 16 x3 hM HT5.out.wf hN (by omega))
      rw [HHV.out.1, HHV.out.2] at HS
      go_wp2_with fail
      refine HS.out.mono ?_
      rintro e w3 ⟨rfl, hT3, hk3⟩
      have hk3z := Kz.ofKept hk3 (by omega)
      have z3 := hk3z.cell HC5.out.1 y3
      have b0 := hk3z.cell HC5.out.2 a0
      have b1 := hk3z.cell HC5.out.2 a1
      have HM := Lib.hid (HV.out w3 _ (HT5.out.mid hk3))
      unfold IsE at HM
      rw [HHV.out.1, HHV.out.2] at HM
      have HT3 := Lib.hid hT3
      have HK3 := Lib.hid hk3
      clear hT3 hk3 hk3z HS HV y0 y1 y2 y3 a0 a1
      go_wp2_with fail
      refine HM.out.mono ?_
      rintro e w4 ⟨rfl, hM4, hk4⟩
      obtain ⟨hT4, hz4⟩ := HT5.out.both HT3.out HK3.out hM4 hk4 HWF.out
      have HT4 := Lib.hid hT4
      have HE4 := Lib.hid (HE5.out.kz hz4 (fun g hg => both_old hg HK3.out.size))
      have HB4 := Lib.hid (HB5.out.trans (hz4.below HT5.out.lo HT5.out.bd))
      clear hM4 hk4 hT4 hz4 HM z3 b0 b1
      generalize rc (rc c5 w5.heap.size 1) w3.heap.size 2 = c4 at *
      go_wp2
      go_ret2
      exact ⟨_, _, _, rfl, HB4.out, _, _, _, HT4.out, HE4.out, by omega⟩
    · have erb : (er == 0) = false := by simpa using hr
      go_enter Try.func12, Try.ntmps12
      go_wp2_with fail
      generalize (w.alloc (.cells #[.int .u16 x0, .int .u16 x1, .int .u16 x2, .int .u16 x3] 36)).alloc (.cells #[.int .i64 x3, .int .i64 16] 42) = w1 at *
      have k1 : ∀ z : Later w1, z.val.cell? ⟨w.heap.size, 1, none⟩ = some (.int .u16 x1) := fun z => later_old z y1
      have k2 : ∀ z : Later w1, z.val.cell? ⟨w.heap.size, 2, none⟩ = some (.int .u16 x2) := fun z => later_old z y2
      have k3 : ∀ z : Later w1, z.val.cell? ⟨w.heap.size, 3, none⟩ = some (.int .u16 x3) := fun z => later_old z y3
      refine wp_region_later (by kernel_rfl) (by kernel_rfl) ?_
      repeat (go_big_quiet_step (fail))
      refine wpQuiet_nil ?_
      rintro w6 ⟨⟨_, hq⟩, rfl⟩
      replace y1 := (hq.cell (p := ⟨w.heap.size, 1, none⟩) (lt_of_some y1)).trans y1
      replace y2 := (hq.cell (p := ⟨w.heap.size, 2, none⟩) (lt_of_some y2)).trans y2
      replace y3 := (hq.cell (p := ⟨w.heap.size, 3, none⟩) (lt_of_some y3)).trans y3
      replace a0 := (hq.cell (p := ⟨w.heap.size + 1, 0, none⟩) (lt_of_some a0)).trans a0
      replace a1 := (hq.cell (p := ⟨w.heap.size + 1, 1, none⟩) (lt_of_some a1)).trans a1
      have HQ := Lib.hid hq
      clear hq k1 k2 k3
      have HQ6 := HQ
      clear HQ
      go_wp2_with fail
      have k1 : ∀ z : Later w6, z.val.cell? ⟨w.heap.size, 1, none⟩ = some (.int .u16 x1) := fun z => later_old z y1
      have k2 : ∀ z : Later w6, z.val.cell? ⟨w.heap.size, 2, none⟩ = some (.int .u16 x2) := fun z => later_old z y2
      have k3 : ∀ z : Later w6, z.val.cell? ⟨w.heap.size, 3, none⟩ = some (.int .u16 x3) := fun z => later_old z y3
      refine wp_region_later (by kernel_rfl) (by kernel_rfl) ?_
      repeat (go_big_quiet_step (fail))
      refine wpQuiet_nil ?_
      rintro w5 ⟨⟨_, hq6⟩, rfl⟩
      replace y1 := (hq6.cell (p := ⟨w.heap.size, 1, none⟩) (lt_of_some y1)).trans y1
      replace y2 := (hq6.cell (p := ⟨w.heap.size, 2, none⟩) (lt_of_some y2)).trans y2
      replace y3 := (hq6.cell (p := ⟨w.heap.size, 3, none⟩) (lt_of_some y3)).trans y3
      replace a0 := (hq6.cell (p := ⟨w.heap.size + 1, 0, none⟩) (lt_of_some a0)).trans a0
      replace a1 := (hq6.cell (p := ⟨w.heap.size + 1, 1, none⟩) (lt_of_some a1)).trans a1
      have HQ := Lib.hid (Below.then HQ6.out hq6 (Nat.le_refl _))
      clear hq6 k1 k2 k3
      have HT5 := Lib.hid (HT0.out.go HQ.out)
      have HE5 := Lib.hid (HE0.out.go HQ.out (c' := rc (rc c w.heap.size 0) w1.heap.size 0) (fun g hg => rc_old hg))
      have HB5 := Lib.hid (HBA.out.trans (HQ.out.mono HT0.out.bd))
      have HC5 : Hid (rc (rc c w.heap.size 0) w1.heap.size 0 w.heap.size = 0 ∧ rc (rc c w.heap.size 0) w1.heap.size 0 (w.heap.size + 1) = 0) := Lib.hid ⟨by rw [rc_old (by omega)]; exact rc_new (Nat.le_refl _), by rw [rc_old (by omega)]; exact rc_new (by omega)⟩
      have hzq := HQ.out.size
      generalize rc (rc c w.heap.size 0) w1.heap.size 0 = c5 at *
      have HS := Lib.hid (issT_any w5 c5 1 p N t o g x3 16 x3 HT5.out.tb HT5.out.wf hN (by omega))
      unfold IsE at HS
      have HV : Hid (∀ W C, Hmb W C 2 m t → Calls Try.prog 30 #[.pointer (some ⟨m, 0, none⟩), .int .i64 o, .int .i64 g, .agg #[.int .i64 x3, .int .i64 16], .int .u64 x3] W (IsE Hmb W C 2 m t o g x3 16 x3)) := Lib.hid (fun W C hM => issM13_any W C 2 m N t o g x3 16 x3 hM HT5.out.wf hN (by omega))
      rw [HHV.out.1, HHV.out.2] at HS
      go_wp2_with fail
      refine HS.out.mono ?_
      rintro e w3 ⟨rfl, hT3, hk3⟩
      have hk3z := Kz.ofKept hk3 (by omega)
      have z3 := hk3z.cell HC5.out.1 y3
      have b0 := hk3z.cell HC5.out.2 a0
      have b1 := hk3z.cell HC5.out.2 a1
      have HM := Lib.hid (HV.out w3 _ (HT5.out.mid hk3))
      unfold IsE at HM
      rw [HHV.out.1, HHV.out.2] at HM
      have HT3 := Lib.hid hT3
      have HK3 := Lib.hid hk3
      clear hT3 hk3 hk3z HS HV y0 y1 y2 y3 a0 a1
      go_wp2_with fail
      refine HM.out.mono ?_
      rintro e w4 ⟨rfl, hM4, hk4⟩
      obtain ⟨hT4, hz4⟩ := HT5.out.both HT3.out HK3.out hM4 hk4 HWF.out
      have HT4 := Lib.hid hT4
      have HE4 := Lib.hid (HE5.out.kz hz4 (fun g hg => both_old hg HK3.out.size))
      have HB4 := Lib.hid (HB5.out.trans (hz4.below HT5.out.lo HT5.out.bd))
      clear hM4 hk4 hT4 hz4 HM z3 b0 b1
      generalize rc (rc c5 w5.heap.size 1) w3.heap.size 2 = c4 at *
      go_wp2
      go_ret2
      exact ⟨_, _, _, rfl, HB4.out, _, _, _, HT4.out, HE4.out, by omega⟩
theorem step13_iss2 (B N : Nat) (w : World) (c : Nat → Nat) (p m : Nat) (t : Ht) (x0 x1 x2 x3 f : Int) (A : Option Addr) (n cc : Nat) (l : List Int) (hT : Tri B N w c p m t) (hE : Evr w c A n cc l) (hN : N ≤ 4096) (hn : n ≤ 100000) (h0 : 0 ≤ x0 ∧ x0 ≤ 65535) (h1 : 0 ≤ x1 ∧ x1 ≤ 65535) (h2 : 0 ≤ x2 ∧ x2 ≤ 65535) (h3 : 0 ≤ x3 ∧ x3 ≤ 65535) (hf : 1 ≤ f ∧ f ≤ 4294967295) (hx : x0 % 8 = 0 ∨ x0 % 8 = 1 ∨ x0 % 8 = 2 ∨ x0 % 8 = 3) (hy : x3 % 16 = 14) :
    Calls Try.prog 12 #[.pointer (some ⟨p, 0, none⟩), .pointer (some ⟨m, 0, none⟩), .agg #[.int .u16 x0, .int .u16 x1, .int .u16 x2, .int .u16 x3], .int .i64 f, .slice A n cc] w (StE B N w p m n) := by
  obtain ⟨i0, hi, hz0, hz1, hz2⟩ := info_parts infoHn
  have HI := Lib.hid hi
  have HZ := Lib.hid hz0
  have hba : Below w.heap.size w (w.alloc (.cells #[.int .u16 x0, .int .u16 x1, .int .u16 x2, .int .u16 x3] 36)) := (Below.refl _ _).alloc (Nat.le_refl _) _
  have hbb : Below w.heap.size w ((w.alloc (.cells #[.int .u16 x0, .int .u16 x1, .int .u16 x2, .int .u16 x3] 36)).alloc (.cells #[.int .i64 x3, .int .i64 16] 42)) := hba.alloc hba.size _
  have hsz : (w.alloc (.cells #[.int .u16 x0, .int .u16 x1, .int .u16 x2, .int .u16 x3] 36)).heap.size = w.heap.size + 1 := by simp
  have hsz2 : ((w.alloc (.cells #[.int .u16 x0, .int .u16 x1, .int .u16 x2, .int .u16 x3] 36)).alloc (.cells #[.int .i64 x3, .int .i64 16] 42)).heap.size = w.heap.size + 2 := by simp
  have HT0 := Lib.hid (hT.go hbb)
  have HE0 := Lib.hid (hE.go hbb (c' := rc c w.heap.size 0) (fun g hg => rc_old hg))
  have HBA := Lib.hid (hbb.mono hT.bd)
  have hbx : Bx4 ((w.alloc (.cells #[.int .u16 x0, .int .u16 x1, .int .u16 x2, .int .u16 x3] 36)).alloc (.cells #[.int .i64 x3, .int .i64 16] 42)) w.heap.size x0 x1 x2 x3 := (Below.heap_alloc (w.alloc (.cells #[.int .u16 x0, .int .u16 x1, .int .u16 x2, .int .u16 x3] 36)) _ w.heap.size (by simp)).trans (heap_alloc_new w _)
  have hax : ExB ((w.alloc (.cells #[.int .u16 x0, .int .u16 x1, .int .u16 x2, .int .u16 x3] 36)).alloc (.cells #[.int .i64 x3, .int .i64 16] 42)) (w.heap.size + 1) x3 16 := by
    have := heap_alloc_new (w.alloc (.cells #[.int .u16 x0, .int .u16 x1, .int .u16 x2, .int .u16 x3] 36)) (.cells #[.int .i64 x3, .int .i64 16] 42)
    rw [hsz] at this
    exact this
  have HBX := Lib.hid hbx
  have HAX := Lib.hid hax
  obtain ⟨y0, y1, y2, y3⟩ := hbx.cells
  obtain ⟨a0, a1⟩ := hax.cells
  obtain ⟨o, ho⟩ : ∃ o : Int, x1 % 6 = o := ⟨_, rfl⟩
  obtain ⟨g, hg⟩ : ∃ g : Int, x2 % 5 = g := ⟨_, rfl⟩
  have e8 := Int.emod_nonneg x0 (show (8 : Int) ≠ 0 by omega)
  have e16 := Int.emod_nonneg x3 (show (16 : Int) ≠ 0 by omega)
  have e6 : 0 ≤ x1 % 6 ∧ x1 % 6 < 6 := by omega
  have e5 : 0 ≤ x2 % 5 ∧ x2 % 5 < 5 := by omega
  have HWF := Lib.hid (HT0.out.wf.iss (o := o) (g := g) (f := x3) (l := 16) (d := x3))
  have HU : Hid (U64 (t.issH o g x3)) := Lib.hid (Ht.issH_u64 HT0.out.wf hN)
  generalize hhv : t.issH o g x3 = hv at *
  generalize her : t.issE o g = er at *
  have HHV := Lib.hid (And.intro hhv her)
  clear hT hE hba hbb hbx hax hi hz0 hhv her
  by_cases hr : er = 0
  · rcases hx with hx | hx | hx | hx
    · subst hr
      go_enter Try.func12, Try.ntmps12
      go_wp2_with fail
      generalize (w.alloc (.cells #[.int .u16 x0, .int .u16 x1, .int .u16 x2, .int .u16 x3] 36)).alloc (.cells #[.int .i64 x3, .int .i64 16] 42) = w1 at *
      have k1 : ∀ z : Later w1, z.val.cell? ⟨w.heap.size, 1, none⟩ = some (.int .u16 x1) := fun z => later_old z y1
      have k2 : ∀ z : Later w1, z.val.cell? ⟨w.heap.size, 2, none⟩ = some (.int .u16 x2) := fun z => later_old z y2
      have k3 : ∀ z : Later w1, z.val.cell? ⟨w.heap.size, 3, none⟩ = some (.int .u16 x3) := fun z => later_old z y3
      refine wp_region_later (by kernel_rfl) (by kernel_rfl) ?_
      repeat (go_big_quiet_step (fail))
      refine wpQuiet_nil ?_
      rintro w5 ⟨⟨_, hq⟩, rfl⟩
      replace y1 := (hq.cell (p := ⟨w.heap.size, 1, none⟩) (lt_of_some y1)).trans y1
      replace y2 := (hq.cell (p := ⟨w.heap.size, 2, none⟩) (lt_of_some y2)).trans y2
      replace y3 := (hq.cell (p := ⟨w.heap.size, 3, none⟩) (lt_of_some y3)).trans y3
      replace a0 := (hq.cell (p := ⟨w.heap.size + 1, 0, none⟩) (lt_of_some a0)).trans a0
      replace a1 := (hq.cell (p := ⟨w.heap.size + 1, 1, none⟩) (lt_of_some a1)).trans a1
      have HQ := Lib.hid hq
      clear hq k1 k2 k3
      have HT5 := Lib.hid (HT0.out.go HQ.out)
      have HE5 := Lib.hid (HE0.out.go HQ.out (c' := rc (rc c w.heap.size 0) w1.heap.size 0) (fun g hg => rc_old hg))
      have HB5 := Lib.hid (HBA.out.trans (HQ.out.mono HT0.out.bd))
      have HC5 : Hid (rc (rc c w.heap.size 0) w1.heap.size 0 w.heap.size = 0 ∧ rc (rc c w.heap.size 0) w1.heap.size 0 (w.heap.size + 1) = 0) := Lib.hid ⟨by rw [rc_old (by omega)]; exact rc_new (Nat.le_refl _), by rw [rc_old (by omega)]; exact rc_new (by omega)⟩
      have hzq := HQ.out.size
      generalize rc (rc c w.heap.size 0) w1.heap.size 0 = c5 at *
      have HS := Lib.hid (issT_any w5 c5 1 p N t o g x3 16 x3 HT5.out.tb HT5.out.wf hN (by omega))
      unfold IsE at HS
      have HV : Hid (∀ W C, Hmb W C 2 m t → Calls Try.prog 30 #[.pointer (some ⟨m, 0, none⟩), .int .i64 o, .int .i64 g, .agg #[.int .i64 x3, .int .i64 16], .int .u64 x3] W (IsE Hmb W C 2 m t o g x3 16 x3)) := Lib.hid (fun W C hM => issM13_any W C 2 m N t o g x3 16 x3 hM HT5.out.wf hN (by omega))
      rw [HHV.out.1, HHV.out.2] at HS
      go_wp2_with fail
      refine HS.out.mono ?_
      rintro e w3 ⟨rfl, hT3, hk3⟩
      have hk3z := Kz.ofKept hk3 (by omega)
      have z3 := hk3z.cell HC5.out.1 y3
      have b0 := hk3z.cell HC5.out.2 a0
      have b1 := hk3z.cell HC5.out.2 a1
      have HM := Lib.hid (HV.out w3 _ (HT5.out.mid hk3))
      unfold IsE at HM
      rw [HHV.out.1, HHV.out.2] at HM
      have HT3 := Lib.hid hT3
      have HK3 := Lib.hid hk3
      clear hT3 hk3 hk3z HS HV y0 y1 y2 y3 a0 a1
      go_wp2_with fail
      refine HM.out.mono ?_
      rintro e w4 ⟨rfl, hM4, hk4⟩
      obtain ⟨hT4, hz4⟩ := HT5.out.both HT3.out HK3.out hM4 hk4 HWF.out
      have HT4 := Lib.hid hT4
      have HE4 := Lib.hid (HE5.out.kz hz4 (fun g hg => both_old hg HK3.out.size))
      have HB4 := Lib.hid (HB5.out.trans (hz4.below HT5.out.lo HT5.out.bd))
      clear hM4 hk4 hT4 hz4 HM z3 b0 b1
      generalize rc (rc c5 w5.heap.size 1) w3.heap.size 2 = c4 at *
      have hba : Below w4.heap.size w4 (w4.alloc (.cells #[] 39)) := (Below.refl _ _).alloc (Nat.le_refl _) _
      have HBA4 := Lib.hid hba
      have hza : (w4.alloc (.cells #[] 39)).heap.size = w4.heap.size + 1 := by simp
      have ho1 : OwnK han1 39 (w4.alloc (.cells #[] 39)) w4.heap.size (.slice (some ⟨w4.heap.size, 0, none⟩) 0 0) [] := World.ownsRow_made _ #[] 0 (Nat.le_refl _) (Nat.zero_le _) rfl
      have HO1 := Lib.hid ho1
      have HK4 := Lib.hid (HE4.out.row.alloc (.cells #[] 39))
      have HL4 := Lib.hid HE4.out.row.len
      clear hba ho1
      go_wp2_with (at_builtin; go_must (first
        | (refine wpList_appK _ rfl (.tmp 94) (.tmp 95) 32 rfl Try.underlying32 HI.out HZ.out rfl hz1 (by omega) HO1.out rfl HK4.out rfl (by simp; omega) (by omega) ?_
           intro v12 w12 ho12 hb12 hg12
           rw [List.nil_append] at ho12
           obtain ⟨A12, n12, c12, rfl, hx12⟩ := ho12.shape
           have HN12 : Hid (n12 = n) := Lib.hid (hx12.len.symm.trans HL4.out)
           have HB12 := Lib.hid (HBA4.out.trans hb12)
           have HO12 := Lib.hid (ho12.alloc (.cells #[.int .u64 hv] 39))
           have HY12 : Hid (Kws han1 (w12.alloc (.cells #[.int .u64 hv] 39)) (w12.heap.size + 1) (some ⟨w12.heap.size, 0, none⟩) 1 1 [hv]) := Lib.hid (Kws.new (E := han1) w12 [hv] _ _ 1 rfl rfl (by unfold maxLen; omega))
           have hz12 := HB12.out.size
           clear ho12 hb12 hg12 hx12)
        | (refine wpList_appK _ rfl (.tmp 96) (.tmp 98) 32 rfl Try.underlying32 HI.out HZ.out rfl hz1 (by omega) HO12.out rfl HY12.out rfl (by have := HL4.out; omega) (by simp; omega) ?_
           intro v14 w14 ho14 hb14 hg14
           obtain ⟨A14, n14, c14, rfl, hx14⟩ := ho14.shape
           have HBE := Lib.hid ((HB12.out.alloc hz12 (.cells #[.int .u64 hv] 39)).trans hb14)
           have HO14 := Lib.hid ho14
           have HX14 := Lib.hid hx14
           have HN14 : Hid (n14 = n + 1) := Lib.hid (by have h1 := hx14.len; rw [List.length_append, HL4.out] at h1; simpa using h1.symm)
           clear ho14 hb14 hg14 hx14)))
      go_ret2
      refine ⟨_, _, _, rfl, HB4.out.trans (HBE.out.mono HT4.out.bd), _, _, _, HT4.out.go HBE.out, ⟨HX14.out, fun _ a ha => ?_, fun x hx => ?_⟩, by have := HN14.out; omega⟩
      · cases ha
        exact rc_new (HO14.out.ge rfl).1
      · rcases List.mem_append.1 hx with hx | hx
        · exact HE4.out.u64 x hx
        · obtain rfl := List.mem_singleton.1 hx
          exact HU.out
    · subst hr
      go_enter Try.func12, Try.ntmps12
      go_wp2_with fail
      generalize (w.alloc (.cells #[.int .u16 x0, .int .u16 x1, .int .u16 x2, .int .u16 x3] 36)).alloc (.cells #[.int .i64 x3, .int .i64 16] 42) = w1 at *
      have k1 : ∀ z : Later w1, z.val.cell? ⟨w.heap.size, 1, none⟩ = some (.int .u16 x1) := fun z => later_old z y1
      have k2 : ∀ z : Later w1, z.val.cell? ⟨w.heap.size, 2, none⟩ = some (.int .u16 x2) := fun z => later_old z y2
      have k3 : ∀ z : Later w1, z.val.cell? ⟨w.heap.size, 3, none⟩ = some (.int .u16 x3) := fun z => later_old z y3
      refine wp_region_later (by kernel_rfl) (by kernel_rfl) ?_
      repeat (go_big_quiet_step (fail))
      refine wpQuiet_nil ?_
      rintro w5 ⟨⟨_, hq⟩, rfl⟩
      replace y1 := (hq.cell (p := ⟨w.heap.size, 1, none⟩) (lt_of_some y1)).trans y1
      replace y2 := (hq.cell (p := ⟨w.heap.size, 2, none⟩) (lt_of_some y2)).trans y2
      replace y3 := (hq.cell (p := ⟨w.heap.size, 3, none⟩) (lt_of_some y3)).trans y3
      replace a0 := (hq.cell (p := ⟨w.heap.size + 1, 0, none⟩) (lt_of_some a0)).trans a0
      replace a1 := (hq.cell (p := ⟨w.heap.size + 1, 1, none⟩) (lt_of_some a1)).trans a1
      have HQ := Lib.hid hq
      clear hq k1 k2 k3
      have HT5 := Lib.hid (HT0.out.go HQ.out)
      have HE5 := Lib.hid (HE0.out.go HQ.out (c' := rc (rc c w.heap.size 0) w1.heap.size 0) (fun g hg => rc_old hg))
      have HB5 := Lib.hid (HBA.out.trans (HQ.out.mono HT0.out.bd))
      have HC5 : Hid (rc (rc c w.heap.size 0) w1.heap.size 0 w.heap.size = 0 ∧ rc (rc c w.heap.size 0) w1.heap.size 0 (w.heap.size + 1) = 0) := Lib.hid ⟨by rw [rc_old (by omega)]; exact rc_new (Nat.le_refl _), by rw [rc_old (by omega)]; exact rc_new (by omega)⟩
      have hzq := HQ.out.size
      generalize rc (rc c w.heap.size 0) w1.heap.size 0 = c5 at *
      have HS := Lib.hid (issT_any w5 c5 1 p N t o g x3 16 x3 HT5.out.tb HT5.out.wf hN (by omega))
      unfold IsE at HS
      have HV : Hid (∀ W C, Hmb W C 2 m t → Calls Try.prog 30 #[.pointer (some ⟨m, 0, none⟩), .int .i64 o, .int .i64 g, .agg #[.int .i64 x3, .int .i64 16], .int .u64 x3] W (IsE Hmb W C 2 m t o g x3 16 x3)) := Lib.hid (fun W C hM => issM13_any W C 2 m N t o g x3 16 x3 hM HT5.out.wf hN (by omega))
      rw [HHV.out.1, HHV.out.2] at HS
      go_wp2_with fail
      refine HS.out.mono ?_
      rintro e w3 ⟨rfl, hT3, hk3⟩
      have hk3z := Kz.ofKept hk3 (by omega)
      have z3 := hk3z.cell HC5.out.1 y3
      have b0 := hk3z.cell HC5.out.2 a0
      have b1 := hk3z.cell HC5.out.2 a1
      have HM := Lib.hid (HV.out w3 _ (HT5.out.mid hk3))
      unfold IsE at HM
      rw [HHV.out.1, HHV.out.2] at HM
      have HT3 := Lib.hid hT3
      have HK3 := Lib.hid hk3
      clear hT3 hk3 hk3z HS HV y0 y1 y2 y3 a0 a1
      go_wp2_with fail
      refine HM.out.mono ?_
      rintro e w4 ⟨rfl, hM4, hk4⟩
      obtain ⟨hT4, hz4⟩ := HT5.out.both HT3.out HK3.out hM4 hk4 HWF.out
      have HT4 := Lib.hid hT4
      have HE4 := Lib.hid (HE5.out.kz hz4 (fun g hg => both_old hg HK3.out.size))
      have HB4 := Lib.hid (HB5.out.trans (hz4.below HT5.out.lo HT5.out.bd))
      clear hM4 hk4 hT4 hz4 HM z3 b0 b1
      generalize rc (rc c5 w5.heap.size 1) w3.heap.size 2 = c4 at *
      have hba : Below w4.heap.size w4 (w4.alloc (.cells #[] 39)) := (Below.refl _ _).alloc (Nat.le_refl _) _
      have HBA4 := Lib.hid hba
      have hza : (w4.alloc (.cells #[] 39)).heap.size = w4.heap.size + 1 := by simp
      have ho1 : OwnK han1 39 (w4.alloc (.cells #[] 39)) w4.heap.size (.slice (some ⟨w4.heap.size, 0, none⟩) 0 0) [] := World.ownsRow_made _ #[] 0 (Nat.le_refl _) (Nat.zero_le _) rfl
      have HO1 := Lib.hid ho1
      have HK4 := Lib.hid (HE4.out.row.alloc (.cells #[] 39))
      have HL4 := Lib.hid HE4.out.row.len
      clear hba ho1
      go_wp2_with (at_builtin; go_must (first
        | (refine wpList_appK _ rfl (.tmp 94) (.tmp 95) 32 rfl Try.underlying32 HI.out HZ.out rfl hz1 (by omega) HO1.out rfl HK4.out rfl (by simp; omega) (by omega) ?_
           intro v12 w12 ho12 hb12 hg12
           rw [List.nil_append] at ho12
           obtain ⟨A12, n12, c12, rfl, hx12⟩ := ho12.shape
           have HN12 : Hid (n12 = n) := Lib.hid (hx12.len.symm.trans HL4.out)
           have HB12 := Lib.hid (HBA4.out.trans hb12)
           have HO12 := Lib.hid (ho12.alloc (.cells #[.int .u64 hv] 39))
           have HY12 : Hid (Kws han1 (w12.alloc (.cells #[.int .u64 hv] 39)) (w12.heap.size + 1) (some ⟨w12.heap.size, 0, none⟩) 1 1 [hv]) := Lib.hid (Kws.new (E := han1) w12 [hv] _ _ 1 rfl rfl (by unfold maxLen; omega))
           have hz12 := HB12.out.size
           clear ho12 hb12 hg12 hx12)
        | (refine wpList_appK _ rfl (.tmp 96) (.tmp 98) 32 rfl Try.underlying32 HI.out HZ.out rfl hz1 (by omega) HO12.out rfl HY12.out rfl (by have := HL4.out; omega) (by simp; omega) ?_
           intro v14 w14 ho14 hb14 hg14
           obtain ⟨A14, n14, c14, rfl, hx14⟩ := ho14.shape
           have HBE := Lib.hid ((HB12.out.alloc hz12 (.cells #[.int .u64 hv] 39)).trans hb14)
           have HO14 := Lib.hid ho14
           have HX14 := Lib.hid hx14
           have HN14 : Hid (n14 = n + 1) := Lib.hid (by have h1 := hx14.len; rw [List.length_append, HL4.out] at h1; simpa using h1.symm)
           clear ho14 hb14 hg14 hx14)))
      go_ret2
      refine ⟨_, _, _, rfl, HB4.out.trans (HBE.out.mono HT4.out.bd), _, _, _, HT4.out.go HBE.out, ⟨HX14.out, fun _ a ha => ?_, fun x hx => ?_⟩, by have := HN14.out; omega⟩
      · cases ha
        exact rc_new (HO14.out.ge rfl).1
      · rcases List.mem_append.1 hx with hx | hx
        · exact HE4.out.u64 x hx
        · obtain rfl := List.mem_singleton.1 hx
          exact HU.out
    · subst hr
      go_enter Try.func12, Try.ntmps12
      go_wp2_with fail
      generalize (w.alloc (.cells #[.int .u16 x0, .int .u16 x1, .int .u16 x2, .int .u16 x3] 36)).alloc (.cells #[.int .i64 x3, .int .i64 16] 42) = w1 at *
      have k1 : ∀ z : Later w1, z.val.cell? ⟨w.heap.size, 1, none⟩ = some (.int .u16 x1) := fun z => later_old z y1
      have k2 : ∀ z : Later w1, z.val.cell? ⟨w.heap.size, 2, none⟩ = some (.int .u16 x2) := fun z => later_old z y2
      have k3 : ∀ z : Later w1, z.val.cell? ⟨w.heap.size, 3, none⟩ = some (.int .u16 x3) := fun z => later_old z y3
      refine wp_region_later (by kernel_rfl) (by kernel_rfl) ?_
      repeat (go_big_quiet_step (fail))
      refine wpQuiet_nil ?_
      rintro w5 ⟨⟨_, hq⟩, rfl⟩
      replace y1 := (hq.cell (p := ⟨w.heap.size, 1, none⟩) (lt_of_some y1)).trans y1
      replace y2 := (hq.cell (p := ⟨w.heap.size, 2, none⟩) (lt_of_some y2)).trans y2
      replace y3 := (hq.cell (p := ⟨w.heap.size, 3, none⟩) (lt_of_some y3)).trans y3
      replace a0 := (hq.cell (p := ⟨w.heap.size + 1, 0, none⟩) (lt_of_some a0)).trans a0
      replace a1 := (hq.cell (p := ⟨w.heap.size + 1, 1, none⟩) (lt_of_some a1)).trans a1
      have HQ := Lib.hid hq
      clear hq k1 k2 k3
      have HT5 := Lib.hid (HT0.out.go HQ.out)
      have HE5 := Lib.hid (HE0.out.go HQ.out (c' := rc (rc c w.heap.size 0) w1.heap.size 0) (fun g hg => rc_old hg))
      have HB5 := Lib.hid (HBA.out.trans (HQ.out.mono HT0.out.bd))
      have HC5 : Hid (rc (rc c w.heap.size 0) w1.heap.size 0 w.heap.size = 0 ∧ rc (rc c w.heap.size 0) w1.heap.size 0 (w.heap.size + 1) = 0) := Lib.hid ⟨by rw [rc_old (by omega)]; exact rc_new (Nat.le_refl _), by rw [rc_old (by omega)]; exact rc_new (by omega)⟩
      have hzq := HQ.out.size
      generalize rc (rc c w.heap.size 0) w1.heap.size 0 = c5 at *
      have HS := Lib.hid (issT_any w5 c5 1 p N t o g x3 16 x3 HT5.out.tb HT5.out.wf hN (by omega))
      unfold IsE at HS
      have HV : Hid (∀ W C, Hmb W C 2 m t → Calls Try.prog 30 #[.pointer (some ⟨m, 0, none⟩), .int .i64 o, .int .i64 g, .agg #[.int .i64 x3, .int .i64 16], .int .u64 x3] W (IsE Hmb W C 2 m t o g x3 16 x3)) := Lib.hid (fun W C hM => issM13_any W C 2 m N t o g x3 16 x3 hM HT5.out.wf hN (by omega))
      rw [HHV.out.1, HHV.out.2] at HS
      go_wp2_with fail
      refine HS.out.mono ?_
      rintro e w3 ⟨rfl, hT3, hk3⟩
      have hk3z := Kz.ofKept hk3 (by omega)
      have z3 := hk3z.cell HC5.out.1 y3
      have b0 := hk3z.cell HC5.out.2 a0
      have b1 := hk3z.cell HC5.out.2 a1
      have HM := Lib.hid (HV.out w3 _ (HT5.out.mid hk3))
      unfold IsE at HM
      rw [HHV.out.1, HHV.out.2] at HM
      have HT3 := Lib.hid hT3
      have HK3 := Lib.hid hk3
      clear hT3 hk3 hk3z HS HV y0 y1 y2 y3 a0 a1
      go_wp2_with fail
      refine HM.out.mono ?_
      rintro e w4 ⟨rfl, hM4, hk4⟩
      obtain ⟨hT4, hz4⟩ := HT5.out.both HT3.out HK3.out hM4 hk4 HWF.out
      have HT4 := Lib.hid hT4
      have HE4 := Lib.hid (HE5.out.kz hz4 (fun g hg => both_old hg HK3.out.size))
      have HB4 := Lib.hid (HB5.out.trans (hz4.below HT5.out.lo HT5.out.bd))
      clear hM4 hk4 hT4 hz4 HM z3 b0 b1
      generalize rc (rc c5 w5.heap.size 1) w3.heap.size 2 = c4 at *
      have hba : Below w4.heap.size w4 (w4.alloc (.cells #[] 39)) := (Below.refl _ _).alloc (Nat.le_refl _) _
      have HBA4 := Lib.hid hba
      have hza : (w4.alloc (.cells #[] 39)).heap.size = w4.heap.size + 1 := by simp
      have ho1 : OwnK han1 39 (w4.alloc (.cells #[] 39)) w4.heap.size (.slice (some ⟨w4.heap.size, 0, none⟩) 0 0) [] := World.ownsRow_made _ #[] 0 (Nat.le_refl _) (Nat.zero_le _) rfl
      have HO1 := Lib.hid ho1
      have HK4 := Lib.hid (HE4.out.row.alloc (.cells #[] 39))
      have HL4 := Lib.hid HE4.out.row.len
      clear hba ho1
      go_wp2_with (at_builtin; go_must (first
        | (refine wpList_appK _ rfl (.tmp 94) (.tmp 95) 32 rfl Try.underlying32 HI.out HZ.out rfl hz1 (by omega) HO1.out rfl HK4.out rfl (by simp; omega) (by omega) ?_
           intro v12 w12 ho12 hb12 hg12
           rw [List.nil_append] at ho12
           obtain ⟨A12, n12, c12, rfl, hx12⟩ := ho12.shape
           have HN12 : Hid (n12 = n) := Lib.hid (hx12.len.symm.trans HL4.out)
           have HB12 := Lib.hid (HBA4.out.trans hb12)
           have HO12 := Lib.hid (ho12.alloc (.cells #[.int .u64 hv] 39))
           have HY12 : Hid (Kws han1 (w12.alloc (.cells #[.int .u64 hv] 39)) (w12.heap.size + 1) (some ⟨w12.heap.size, 0, none⟩) 1 1 [hv]) := Lib.hid (Kws.new (E := han1) w12 [hv] _ _ 1 rfl rfl (by unfold maxLen; omega))
           have hz12 := HB12.out.size
           clear ho12 hb12 hg12 hx12)
        | (refine wpList_appK _ rfl (.tmp 96) (.tmp 98) 32 rfl Try.underlying32 HI.out HZ.out rfl hz1 (by omega) HO12.out rfl HY12.out rfl (by have := HL4.out; omega) (by simp; omega) ?_
           intro v14 w14 ho14 hb14 hg14
           obtain ⟨A14, n14, c14, rfl, hx14⟩ := ho14.shape
           have HBE := Lib.hid ((HB12.out.alloc hz12 (.cells #[.int .u64 hv] 39)).trans hb14)
           have HO14 := Lib.hid ho14
           have HX14 := Lib.hid hx14
           have HN14 : Hid (n14 = n + 1) := Lib.hid (by have h1 := hx14.len; rw [List.length_append, HL4.out] at h1; simpa using h1.symm)
           clear ho14 hb14 hg14 hx14)))
      go_ret2
      refine ⟨_, _, _, rfl, HB4.out.trans (HBE.out.mono HT4.out.bd), _, _, _, HT4.out.go HBE.out, ⟨HX14.out, fun _ a ha => ?_, fun x hx => ?_⟩, by have := HN14.out; omega⟩
      · cases ha
        exact rc_new (HO14.out.ge rfl).1
      · rcases List.mem_append.1 hx with hx | hx
        · exact HE4.out.u64 x hx
        · obtain rfl := List.mem_singleton.1 hx
          exact HU.out
    · subst hr
      go_enter Try.func12, Try.ntmps12
      go_wp2_with fail
      generalize (w.alloc (.cells #[.int .u16 x0, .int .u16 x1, .int .u16 x2, .int .u16 x3] 36)).alloc (.cells #[.int .i64 x3, .int .i64 16] 42) = w1 at *
      have k1 : ∀ z : Later w1, z.val.cell? ⟨w.heap.size, 1, none⟩ = some (.int .u16 x1) := fun z => later_old z y1
      have k2 : ∀ z : Later w1, z.val.cell? ⟨w.heap.size, 2, none⟩ = some (.int .u16 x2) := fun z => later_old z y2
      have k3 : ∀ z : Later w1, z.val.cell? ⟨w.heap.size, 3, none⟩ = some (.int .u16 x3) := fun z => later_old z y3
      refine wp_region_later (by kernel_rfl) (by kernel_rfl) ?_
      repeat (go_big_quiet_step (fail))
      refine wpQuiet_nil ?_
      rintro w5 ⟨⟨_, hq⟩, rfl⟩
      replace y1 := (hq.cell (p := ⟨w.heap.size, 1, none⟩) (lt_of_some y1)).trans y1
      replace y2 := (hq.cell (p := ⟨w.heap.size, 2, none⟩) (lt_of_some y2)).trans y2
      replace y3 := (hq.cell (p := ⟨w.heap.size, 3, none⟩) (lt_of_some y3)).trans y3
      replace a0 := (hq.cell (p := ⟨w.heap.size + 1, 0, none⟩) (lt_of_some a0)).trans a0
      replace a1 := (hq.cell (p := ⟨w.heap.size + 1, 1, none⟩) (lt_of_some a1)).trans a1
      have HQ := Lib.hid hq
      clear hq k1 k2 k3
      have HT5 := Lib.hid (HT0.out.go HQ.out)
      have HE5 := Lib.hid (HE0.out.go HQ.out (c' := rc (rc c w.heap.size 0) w1.heap.size 0) (fun g hg => rc_old hg))
      have HB5 := Lib.hid (HBA.out.trans (HQ.out.mono HT0.out.bd))
      have HC5 : Hid (rc (rc c w.heap.size 0) w1.heap.size 0 w.heap.size = 0 ∧ rc (rc c w.heap.size 0) w1.heap.size 0 (w.heap.size + 1) = 0) := Lib.hid ⟨by rw [rc_old (by omega)]; exact rc_new (Nat.le_refl _), by rw [rc_old (by omega)]; exact rc_new (by omega)⟩
      have hzq := HQ.out.size
      generalize rc (rc c w.heap.size 0) w1.heap.size 0 = c5 at *
      have HS := Lib.hid (issT_any w5 c5 1 p N t o g x3 16 x3 HT5.out.tb HT5.out.wf hN (by omega))
      unfold IsE at HS
      have HV : Hid (∀ W C, Hmb W C 2 m t → Calls Try.prog 30 #[.pointer (some ⟨m, 0, none⟩), .int .i64 o, .int .i64 g, .agg #[.int .i64 x3, .int .i64 16], .int .u64 x3] W (IsE Hmb W C 2 m t o g x3 16 x3)) := Lib.hid (fun W C hM => issM13_any W C 2 m N t o g x3 16 x3 hM HT5.out.wf hN (by omega))
      rw [HHV.out.1, HHV.out.2] at HS
      go_wp2_with fail
      refine HS.out.mono ?_
      rintro e w3 ⟨rfl, hT3, hk3⟩
      have hk3z := Kz.ofKept hk3 (by omega)
      have z3 := hk3z.cell HC5.out.1 y3
      have b0 := hk3z.cell HC5.out.2 a0
      have b1 := hk3z.cell HC5.out.2 a1
      have HM := Lib.hid (HV.out w3 _ (HT5.out.mid hk3))
      unfold IsE at HM
      rw [HHV.out.1, HHV.out.2] at HM
      have HT3 := Lib.hid hT3
      have HK3 := Lib.hid hk3
      clear hT3 hk3 hk3z HS HV y0 y1 y2 y3 a0 a1
      go_wp2_with fail
      refine HM.out.mono ?_
      rintro e w4 ⟨rfl, hM4, hk4⟩
      obtain ⟨hT4, hz4⟩ := HT5.out.both HT3.out HK3.out hM4 hk4 HWF.out
      have HT4 := Lib.hid hT4
      have HE4 := Lib.hid (HE5.out.kz hz4 (fun g hg => both_old hg HK3.out.size))
      have HB4 := Lib.hid (HB5.out.trans (hz4.below HT5.out.lo HT5.out.bd))
      clear hM4 hk4 hT4 hz4 HM z3 b0 b1
      generalize rc (rc c5 w5.heap.size 1) w3.heap.size 2 = c4 at *
      have hba : Below w4.heap.size w4 (w4.alloc (.cells #[] 39)) := (Below.refl _ _).alloc (Nat.le_refl _) _
      have HBA4 := Lib.hid hba
      have hza : (w4.alloc (.cells #[] 39)).heap.size = w4.heap.size + 1 := by simp
      have ho1 : OwnK han1 39 (w4.alloc (.cells #[] 39)) w4.heap.size (.slice (some ⟨w4.heap.size, 0, none⟩) 0 0) [] := World.ownsRow_made _ #[] 0 (Nat.le_refl _) (Nat.zero_le _) rfl
      have HO1 := Lib.hid ho1
      have HK4 := Lib.hid (HE4.out.row.alloc (.cells #[] 39))
      have HL4 := Lib.hid HE4.out.row.len
      clear hba ho1
      go_wp2_with (at_builtin; go_must (first
        | (refine wpList_appK _ rfl (.tmp 94) (.tmp 95) 32 rfl Try.underlying32 HI.out HZ.out rfl hz1 (by omega) HO1.out rfl HK4.out rfl (by simp; omega) (by omega) ?_
           intro v12 w12 ho12 hb12 hg12
           rw [List.nil_append] at ho12
           obtain ⟨A12, n12, c12, rfl, hx12⟩ := ho12.shape
           have HN12 : Hid (n12 = n) := Lib.hid (hx12.len.symm.trans HL4.out)
           have HB12 := Lib.hid (HBA4.out.trans hb12)
           have HO12 := Lib.hid (ho12.alloc (.cells #[.int .u64 hv] 39))
           have HY12 : Hid (Kws han1 (w12.alloc (.cells #[.int .u64 hv] 39)) (w12.heap.size + 1) (some ⟨w12.heap.size, 0, none⟩) 1 1 [hv]) := Lib.hid (Kws.new (E := han1) w12 [hv] _ _ 1 rfl rfl (by unfold maxLen; omega))
           have hz12 := HB12.out.size
           clear ho12 hb12 hg12 hx12)
        | (refine wpList_appK _ rfl (.tmp 96) (.tmp 98) 32 rfl Try.underlying32 HI.out HZ.out rfl hz1 (by omega) HO12.out rfl HY12.out rfl (by have := HL4.out; omega) (by simp; omega) ?_
           intro v14 w14 ho14 hb14 hg14
           obtain ⟨A14, n14, c14, rfl, hx14⟩ := ho14.shape
           have HBE := Lib.hid ((HB12.out.alloc hz12 (.cells #[.int .u64 hv] 39)).trans hb14)
           have HO14 := Lib.hid ho14
           have HX14 := Lib.hid hx14
           have HN14 : Hid (n14 = n + 1) := Lib.hid (by have h1 := hx14.len; rw [List.length_append, HL4.out] at h1; simpa using h1.symm)
           clear ho14 hb14 hg14 hx14)))
      go_ret2
      refine ⟨_, _, _, rfl, HB4.out.trans (HBE.out.mono HT4.out.bd), _, _, _, HT4.out.go HBE.out, ⟨HX14.out, fun _ a ha => ?_, fun x hx => ?_⟩, by have := HN14.out; omega⟩
      · cases ha
        exact rc_new (HO14.out.ge rfl).1
      · rcases List.mem_append.1 hx with hx | hx
        · exact HE4.out.u64 x hx
        · obtain rfl := List.mem_singleton.1 hx
          exact HU.out
  · rcases hx with hx | hx | hx | hx
    · have erb : (er == 0) = false := by simpa using hr
      go_enter Try.func12, Try.ntmps12
      go_wp2_with fail
      generalize (w.alloc (.cells #[.int .u16 x0, .int .u16 x1, .int .u16 x2, .int .u16 x3] 36)).alloc (.cells #[.int .i64 x3, .int .i64 16] 42) = w1 at *
      have k1 : ∀ z : Later w1, z.val.cell? ⟨w.heap.size, 1, none⟩ = some (.int .u16 x1) := fun z => later_old z y1
      have k2 : ∀ z : Later w1, z.val.cell? ⟨w.heap.size, 2, none⟩ = some (.int .u16 x2) := fun z => later_old z y2
      have k3 : ∀ z : Later w1, z.val.cell? ⟨w.heap.size, 3, none⟩ = some (.int .u16 x3) := fun z => later_old z y3
      refine wp_region_later (by kernel_rfl) (by kernel_rfl) ?_
      repeat (go_big_quiet_step (fail))
      refine wpQuiet_nil ?_
      rintro w5 ⟨⟨_, hq⟩, rfl⟩
      replace y1 := (hq.cell (p := ⟨w.heap.size, 1, none⟩) (lt_of_some y1)).trans y1
      replace y2 := (hq.cell (p := ⟨w.heap.size, 2, none⟩) (lt_of_some y2)).trans y2
      replace y3 := (hq.cell (p := ⟨w.heap.size, 3, none⟩) (lt_of_some y3)).trans y3
      replace a0 := (hq.cell (p := ⟨w.heap.size + 1, 0, none⟩) (lt_of_some a0)).trans a0
      replace a1 := (hq.cell (p := ⟨w.heap.size + 1, 1, none⟩) (lt_of_some a1)).trans a1
      have HQ := Lib.hid hq
      clear hq k1 k2 k3
      have HT5 := Lib.hid (HT0.out.go HQ.out)
      have HE5 := Lib.hid (HE0.out.go HQ.out (c' := rc (rc c w.heap.size 0) w1.heap.size 0) (fun g hg => rc_old hg))
      have HB5 := Lib.hid (HBA.out.trans (HQ.out.mono HT0.out.bd))
      have HC5 : Hid (rc (rc c w.heap.size 0) w1.heap.size 0 w.heap.size = 0 ∧ rc (rc c w.heap.size 0) w1.heap.size 0 (w.heap.size + 1) = 0) := Lib.hid ⟨by rw [rc_old (by omega)]; exact rc_new (Nat.le_refl _), by rw [rc_old (by omega)]; exact rc_new (by omega)⟩
      have hzq := HQ.out.size
      generalize rc (rc c w.heap.size 0) w1.heap.size 0 = c5 at *
      have HS := Lib.hid (issT_any w5 c5 1 p N t o g x3 16 x3 HT5.out.tb HT5.out.wf hN (by omega))
      unfold IsE at HS
      have HV : Hid (∀ W C, Hmb W C 2 m t → Calls Try.prog 30 #[.pointer (some ⟨m, 0, none⟩), .int .i64 o, .int .i64 g, .agg #[.int .i64 x3, .int .i64 16], .int .u64 x3] W (IsE Hmb W C 2 m t o g x3 16 x3)) := Lib.hid (fun W C hM => issM13_any W C 2 m N t o g x3 16 x3 hM HT5.out.wf hN (by omega))
      rw [HHV.out.1, HHV.out.2] at HS
      go_wp2_with fail
      refine HS.out.mono ?_
      rintro e w3 ⟨rfl, hT3, hk3⟩
      have hk3z := Kz.ofKept hk3 (by omega)
      have z3 := hk3z.cell HC5.out.1 y3
      have b0 := hk3z.cell HC5.out.2 a0
      have b1 := hk3z.cell HC5.out.2 a1
      have HM := Lib.hid (HV.out w3 _ (HT5.out.mid hk3))
      unfold IsE at HM
      rw [HHV.out.1, HHV.out.2] at HM
      have HT3 := Lib.hid hT3
      have HK3 := Lib.hid hk3
      clear hT3 hk3 hk3z HS HV y0 y1 y2 y3 a0 a1
      go_wp2_with fail
      refine HM.out.mono ?_
      rintro e w4 ⟨rfl, hM4, hk4⟩
      obtain ⟨hT4, hz4⟩ := HT5.out.both HT3.out HK3.out hM4 hk4 HWF.out
      have HT4 := Lib.hid hT4
      have HE4 := Lib.hid (HE5.out.kz hz4 (fun g hg => both_old hg HK3.out.size))
      have HB4 := Lib.hid (HB5.out.trans (hz4.below HT5.out.lo HT5.out.bd))
      clear hM4 hk4 hT4 hz4 HM z3 b0 b1
      generalize rc (rc c5 w5.heap.size 1) w3.heap.size 2 = c4 at *
      go_wp2
      go_ret2
      exact ⟨_, _, _, rfl, HB4.out, _, _, _, HT4.out, HE4.out, by omega⟩
    · have erb : (er == 0) = false := by simpa using hr
      go_enter Try.func12, Try.ntmps12
      go_wp2_with fail
      generalize (w.alloc (.cells #[.int .u16 x0, .int .u16 x1, .int .u16 x2, .int .u16 x3] 36)).alloc (.cells #[.int .i64 x3, .int .i64 16] 42) = w1 at *
      have k1 : ∀ z : Later w1, z.val.cell? ⟨w.heap.size, 1, none⟩ = some (.int .u16 x1) := fun z => later_old z y1
      have k2 : ∀ z : Later w1, z.val.cell? ⟨w.heap.size, 2, none⟩ = some (.int .u16 x2) := fun z => later_old z y2
      have k3 : ∀ z : Later w1, z.val.cell? ⟨w.heap.size, 3, none⟩ = some (.int .u16 x3) := fun z => later_old z y3
      refine wp_region_later (by kernel_rfl) (by kernel_rfl) ?_
      repeat (go_big_quiet_step (fail))
      refine wpQuiet_nil ?_
      rintro w5 ⟨⟨_, hq⟩, rfl⟩
      replace y1 := (hq.cell (p := ⟨w.heap.size, 1, none⟩) (lt_of_some y1)).trans y1
      replace y2 := (hq.cell (p := ⟨w.heap.size, 2, none⟩) (lt_of_some y2)).trans y2
      replace y3 := (hq.cell (p := ⟨w.heap.size, 3, none⟩) (lt_of_some y3)).trans y3
      replace a0 := (hq.cell (p := ⟨w.heap.size + 1, 0, none⟩) (lt_of_some a0)).trans a0
      replace a1 := (hq.cell (p := ⟨w.heap.size + 1, 1, none⟩) (lt_of_some a1)).trans a1
      have HQ := Lib.hid hq
      clear hq k1 k2 k3
      have HT5 := Lib.hid (HT0.out.go HQ.out)
      have HE5 := Lib.hid (HE0.out.go HQ.out (c' := rc (rc c w.heap.size 0) w1.heap.size 0) (fun g hg => rc_old hg))
      have HB5 := Lib.hid (HBA.out.trans (HQ.out.mono HT0.out.bd))
      have HC5 : Hid (rc (rc c w.heap.size 0) w1.heap.size 0 w.heap.size = 0 ∧ rc (rc c w.heap.size 0) w1.heap.size 0 (w.heap.size + 1) = 0) := Lib.hid ⟨by rw [rc_old (by omega)]; exact rc_new (Nat.le_refl _), by rw [rc_old (by omega)]; exact rc_new (by omega)⟩
      have hzq := HQ.out.size
      generalize rc (rc c w.heap.size 0) w1.heap.size 0 = c5 at *
      have HS := Lib.hid (issT_any w5 c5 1 p N t o g x3 16 x3 HT5.out.tb HT5.out.wf hN (by omega))
      unfold IsE at HS
      have HV : Hid (∀ W C, Hmb W C 2 m t → Calls Try.prog 30 #[.pointer (some ⟨m, 0, none⟩), .int .i64 o, .int .i64 g, .agg #[.int .i64 x3, .int .i64 16], .int .u64 x3] W (IsE Hmb W C 2 m t o g x3 16 x3)) := Lib.hid (fun W C hM => issM13_any W C 2 m N t o g x3 16 x3 hM HT5.out.wf hN (by omega))
      rw [HHV.out.1, HHV.out.2] at HS
      go_wp2_with fail
      refine HS.out.mono ?_
      rintro e w3 ⟨rfl, hT3, hk3⟩
      have hk3z := Kz.ofKept hk3 (by omega)
      have z3 := hk3z.cell HC5.out.1 y3
      have b0 := hk3z.cell HC5.out.2 a0
      have b1 := hk3z.cell HC5.out.2 a1
      have HM := Lib.hid (HV.out w3 _ (HT5.out.mid hk3))
      unfold IsE at HM
      rw [HHV.out.1, HHV.out.2] at HM
      have HT3 := Lib.hid hT3
      have HK3 := Lib.hid hk3
      clear hT3 hk3 hk3z HS HV y0 y1 y2 y3 a0 a1
      go_wp2_with fail
      refine HM.out.mono ?_
      rintro e w4 ⟨rfl, hM4, hk4⟩
      obtain ⟨hT4, hz4⟩ := HT5.out.both HT3.out HK3.out hM4 hk4 HWF.out
      have HT4 := Lib.hid hT4
      have HE4 := Lib.hid (HE5.out.kz hz4 (fun g hg => both_old hg HK3.out.size))
      have HB4 := Lib.hid (HB5.out.trans (hz4.below HT5.out.lo HT5.out.bd))
      clear hM4 hk4 hT4 hz4 HM z3 b0 b1
      generalize rc (rc c5 w5.heap.size 1) w3.heap.size 2 = c4 at *
      go_wp2
      go_ret2
      exact ⟨_, _, _, rfl, HB4.out, _, _, _, HT4.out, HE4.out, by omega⟩
    · have erb : (er == 0) = false := by simpa using hr
      go_enter Try.func12, Try.ntmps12
      go_wp2_with fail
      generalize (w.alloc (.cells #[.int .u16 x0, .int .u16 x1, .int .u16 x2, .int .u16 x3] 36)).alloc (.cells #[.int .i64 x3, .int .i64 16] 42) = w1 at *
      have k1 : ∀ z : Later w1, z.val.cell? ⟨w.heap.size, 1, none⟩ = some (.int .u16 x1) := fun z => later_old z y1
      have k2 : ∀ z : Later w1, z.val.cell? ⟨w.heap.size, 2, none⟩ = some (.int .u16 x2) := fun z => later_old z y2
      have k3 : ∀ z : Later w1, z.val.cell? ⟨w.heap.size, 3, none⟩ = some (.int .u16 x3) := fun z => later_old z y3
      refine wp_region_later (by kernel_rfl) (by kernel_rfl) ?_
      repeat (go_big_quiet_step (fail))
      refine wpQuiet_nil ?_
      rintro w5 ⟨⟨_, hq⟩, rfl⟩
      replace y1 := (hq.cell (p := ⟨w.heap.size, 1, none⟩) (lt_of_some y1)).trans y1
      replace y2 := (hq.cell (p := ⟨w.heap.size, 2, none⟩) (lt_of_some y2)).trans y2
      replace y3 := (hq.cell (p := ⟨w.heap.size, 3, none⟩) (lt_of_some y3)).trans y3
      replace a0 := (hq.cell (p := ⟨w.heap.size + 1, 0, none⟩) (lt_of_some a0)).trans a0
      replace a1 := (hq.cell (p := ⟨w.heap.size + 1, 1, none⟩) (lt_of_some a1)).trans a1
      have HQ := Lib.hid hq
      clear hq k1 k2 k3
      have HT5 := Lib.hid (HT0.out.go HQ.out)
      have HE5 := Lib.hid (HE0.out.go HQ.out (c' := rc (rc c w.heap.size 0) w1.heap.size 0) (fun g hg => rc_old hg))
      have HB5 := Lib.hid (HBA.out.trans (HQ.out.mono HT0.out.bd))
      have HC5 : Hid (rc (rc c w.heap.size 0) w1.heap.size 0 w.heap.size = 0 ∧ rc (rc c w.heap.size 0) w1.heap.size 0 (w.heap.size + 1) = 0) := Lib.hid ⟨by rw [rc_old (by omega)]; exact rc_new (Nat.le_refl _), by rw [rc_old (by omega)]; exact rc_new (by omega)⟩
      have hzq := HQ.out.size
      generalize rc (rc c w.heap.size 0) w1.heap.size 0 = c5 at *
      have HS := Lib.hid (issT_any w5 c5 1 p N t o g x3 16 x3 HT5.out.tb HT5.out.wf hN (by omega))
      unfold IsE at HS
      have HV : Hid (∀ W C, Hmb W C 2 m t → Calls Try.prog 30 #[.pointer (some ⟨m, 0, none⟩), .int .i64 o, .int .i64 g, .agg #[.int .i64 x3, .int .i64 16], .int .u64 x3] W (IsE Hmb W C 2 m t o g x3 16 x3)) := Lib.hid (fun W C hM => issM13_any W C 2 m N t o g x3 16 x3 hM HT5.out.wf hN (by omega))
      rw [HHV.out.1, HHV.out.2] at HS
      go_wp2_with fail
      refine HS.out.mono ?_
      rintro e w3 ⟨rfl, hT3, hk3⟩
      have hk3z := Kz.ofKept hk3 (by omega)
      have z3 := hk3z.cell HC5.out.1 y3
      have b0 := hk3z.cell HC5.out.2 a0
      have b1 := hk3z.cell HC5.out.2 a1
      have HM := Lib.hid (HV.out w3 _ (HT5.out.mid hk3))
      unfold IsE at HM
      rw [HHV.out.1, HHV.out.2] at HM
      have HT3 := Lib.hid hT3
      have HK3 := Lib.hid hk3
      clear hT3 hk3 hk3z HS HV y0 y1 y2 y3 a0 a1
      go_wp2_with fail
      refine HM.out.mono ?_
      rintro e w4 ⟨rfl, hM4, hk4⟩
      obtain ⟨hT4, hz4⟩ := HT5.out.both HT3.out HK3.out hM4 hk4 HWF.out
      have HT4 := Lib.hid hT4
      have HE4 := Lib.hid (HE5.out.kz hz4 (fun g hg => both_old hg HK3.out.size))
      have HB4 := Lib.hid (HB5.out.trans (hz4.below HT5.out.lo HT5.out.bd))
      clear hM4 hk4 hT4 hz4 HM z3 b0 b1
      generalize rc (rc c5 w5.heap.size 1) w3.heap.size 2 = c4 at *
      go_wp2
      go_ret2
      exact ⟨_, _, _, rfl, HB4.out, _, _, _, HT4.out, HE4.out, by omega⟩
    · have erb : (er == 0) = false := by simpa using hr
      go_enter Try.func12, Try.ntmps12
      go_wp2_with fail
      generalize (w.alloc (.cells #[.int .u16 x0, .int .u16 x1, .int .u16 x2, .int .u16 x3] 36)).alloc (.cells #[.int .i64 x3, .int .i64 16] 42) = w1 at *
      have k1 : ∀ z : Later w1, z.val.cell? ⟨w.heap.size, 1, none⟩ = some (.int .u16 x1) := fun z => later_old z y1
      have k2 : ∀ z : Later w1, z.val.cell? ⟨w.heap.size, 2, none⟩ = some (.int .u16 x2) := fun z => later_old z y2
      have k3 : ∀ z : Later w1, z.val.cell? ⟨w.heap.size, 3, none⟩ = some (.int .u16 x3) := fun z => later_old z y3
      refine wp_region_later (by kernel_rfl) (by kernel_rfl) ?_
      repeat (go_big_quiet_step (fail))
      refine wpQuiet_nil ?_
      rintro w5 ⟨⟨_, hq⟩, rfl⟩
      replace y1 := (hq.cell (p := ⟨w.heap.size, 1, none⟩) (lt_of_some y1)).trans y1
      replace y2 := (hq.cell (p := ⟨w.heap.size, 2, none⟩) (lt_of_some y2)).trans y2
      replace y3 := (hq.cell (p := ⟨w.heap.size, 3, none⟩) (lt_of_some y3)).trans y3
      replace a0 := (hq.cell (p := ⟨w.heap.size + 1, 0, none⟩) (lt_of_some a0)).trans a0
      replace a1 := (hq.cell (p := ⟨w.heap.size + 1, 1, none⟩) (lt_of_some a1)).trans a1
      have HQ := Lib.hid hq
      clear hq k1 k2 k3
      have HT5 := Lib.hid (HT0.out.go HQ.out)
      have HE5 := Lib.hid (HE0.out.go HQ.out (c' := rc (rc c w.heap.size 0) w1.heap.size 0) (fun g hg => rc_old hg))
      have HB5 := Lib.hid (HBA.out.trans (HQ.out.mono HT0.out.bd))
      have HC5 : Hid (rc (rc c w.heap.size 0) w1.heap.size 0 w.heap.size = 0 ∧ rc (rc c w.heap.size 0) w1.heap.size 0 (w.heap.size + 1) = 0) := Lib.hid ⟨by rw [rc_old (by omega)]; exact rc_new (Nat.le_refl _), by rw [rc_old (by omega)]; exact rc_new (by omega)⟩
      have hzq := HQ.out.size
      generalize rc (rc c w.heap.size 0) w1.heap.size 0 = c5 at *
      have HS := Lib.hid (issT_any w5 c5 1 p N t o g x3 16 x3 HT5.out.tb HT5.out.wf hN (by omega))
      unfold IsE at HS
      have HV : Hid (∀ W C, Hmb W C 2 m t → Calls Try.prog 30 #[.pointer (some ⟨m, 0, none⟩), .int .i64 o, .int .i64 g, .agg #[.int .i64 x3, .int .i64 16], .int .u64 x3] W (IsE Hmb W C 2 m t o g x3 16 x3)) := Lib.hid (fun W C hM => issM13_any W C 2 m N t o g x3 16 x3 hM HT5.out.wf hN (by omega))
      rw [HHV.out.1, HHV.out.2] at HS
      go_wp2_with fail
      refine HS.out.mono ?_
      rintro e w3 ⟨rfl, hT3, hk3⟩
      have hk3z := Kz.ofKept hk3 (by omega)
      have z3 := hk3z.cell HC5.out.1 y3
      have b0 := hk3z.cell HC5.out.2 a0
      have b1 := hk3z.cell HC5.out.2 a1
      have HM := Lib.hid (HV.out w3 _ (HT5.out.mid hk3))
      unfold IsE at HM
      rw [HHV.out.1, HHV.out.2] at HM
      have HT3 := Lib.hid hT3
      have HK3 := Lib.hid hk3
      clear hT3 hk3 hk3z HS HV y0 y1 y2 y3 a0 a1
      go_wp2_with fail
      refine HM.out.mono ?_
      rintro e w4 ⟨rfl, hM4, hk4⟩
      obtain ⟨hT4, hz4⟩ := HT5.out.both HT3.out HK3.out hM4 hk4 HWF.out
      have HT4 := Lib.hid hT4
      have HE4 := Lib.hid (HE5.out.kz hz4 (fun g hg => both_old hg HK3.out.size))
      have HB4 := Lib.hid (HB5.out.trans (hz4.below HT5.out.lo HT5.out.bd))
      clear hM4 hk4 hT4 hz4 HM z3 b0 b1
      generalize rc (rc c5 w5.heap.size 1) w3.heap.size 2 = c4 at *
      go_wp2
      go_ret2
      exact ⟨_, _, _, rfl, HB4.out, _, _, _, HT4.out, HE4.out, by omega⟩
theorem step13_iss3 (B N : Nat) (w : World) (c : Nat → Nat) (p m : Nat) (t : Ht) (x0 x1 x2 x3 f : Int) (A : Option Addr) (n cc : Nat) (l : List Int) (hT : Tri B N w c p m t) (hE : Evr w c A n cc l) (hN : N ≤ 4096) (hn : n ≤ 100000) (h0 : 0 ≤ x0 ∧ x0 ≤ 65535) (h1 : 0 ≤ x1 ∧ x1 ≤ 65535) (h2 : 0 ≤ x2 ∧ x2 ≤ 65535) (h3 : 0 ≤ x3 ∧ x3 ≤ 65535) (hf : 1 ≤ f ∧ f ≤ 4294967295) (hx : x0 % 8 = 0 ∨ x0 % 8 = 1 ∨ x0 % 8 = 2 ∨ x0 % 8 = 3) (hy : x3 % 16 = 15) :
    Calls Try.prog 12 #[.pointer (some ⟨p, 0, none⟩), .pointer (some ⟨m, 0, none⟩), .agg #[.int .u16 x0, .int .u16 x1, .int .u16 x2, .int .u16 x3], .int .i64 f, .slice A n cc] w (StE B N w p m n) := by
  obtain ⟨i0, hi, hz0, hz1, hz2⟩ := info_parts infoHn
  have HI := Lib.hid hi
  have HZ := Lib.hid hz0
  have hba : Below w.heap.size w (w.alloc (.cells #[.int .u16 x0, .int .u16 x1, .int .u16 x2, .int .u16 x3] 36)) := (Below.refl _ _).alloc (Nat.le_refl _) _
  have hbb : Below w.heap.size w ((w.alloc (.cells #[.int .u16 x0, .int .u16 x1, .int .u16 x2, .int .u16 x3] 36)).alloc (.cells #[.int .i64 x3, .int .i64 16] 42)) := hba.alloc hba.size _
  have hsz : (w.alloc (.cells #[.int .u16 x0, .int .u16 x1, .int .u16 x2, .int .u16 x3] 36)).heap.size = w.heap.size + 1 := by simp
  have hsz2 : ((w.alloc (.cells #[.int .u16 x0, .int .u16 x1, .int .u16 x2, .int .u16 x3] 36)).alloc (.cells #[.int .i64 x3, .int .i64 16] 42)).heap.size = w.heap.size + 2 := by simp
  have HT0 := Lib.hid (hT.go hbb)
  have HE0 := Lib.hid (hE.go hbb (c' := rc c w.heap.size 0) (fun g hg => rc_old hg))
  have HBA := Lib.hid (hbb.mono hT.bd)
  have hbx : Bx4 ((w.alloc (.cells #[.int .u16 x0, .int .u16 x1, .int .u16 x2, .int .u16 x3] 36)).alloc (.cells #[.int .i64 x3, .int .i64 16] 42)) w.heap.size x0 x1 x2 x3 := (Below.heap_alloc (w.alloc (.cells #[.int .u16 x0, .int .u16 x1, .int .u16 x2, .int .u16 x3] 36)) _ w.heap.size (by simp)).trans (heap_alloc_new w _)
  have hax : ExB ((w.alloc (.cells #[.int .u16 x0, .int .u16 x1, .int .u16 x2, .int .u16 x3] 36)).alloc (.cells #[.int .i64 x3, .int .i64 16] 42)) (w.heap.size + 1) x3 16 := by
    have := heap_alloc_new (w.alloc (.cells #[.int .u16 x0, .int .u16 x1, .int .u16 x2, .int .u16 x3] 36)) (.cells #[.int .i64 x3, .int .i64 16] 42)
    rw [hsz] at this
    exact this
  have HBX := Lib.hid hbx
  have HAX := Lib.hid hax
  obtain ⟨y0, y1, y2, y3⟩ := hbx.cells
  obtain ⟨a0, a1⟩ := hax.cells
  obtain ⟨o, ho⟩ : ∃ o : Int, x1 % 6 - 6 = o := ⟨_, rfl⟩
  obtain ⟨g, hg⟩ : ∃ g : Int, x2 % 5 - 5 = g := ⟨_, rfl⟩
  have e8 := Int.emod_nonneg x0 (show (8 : Int) ≠ 0 by omega)
  have e16 := Int.emod_nonneg x3 (show (16 : Int) ≠ 0 by omega)
  have e6 : 0 ≤ x1 % 6 ∧ x1 % 6 < 6 := by omega
  have e5 : 0 ≤ x2 % 5 ∧ x2 % 5 < 5 := by omega
  have HWF := Lib.hid (HT0.out.wf.iss (o := o) (g := g) (f := x3) (l := 16) (d := x3))
  have HU : Hid (U64 (t.issH o g x3)) := Lib.hid (Ht.issH_u64 HT0.out.wf hN)
  generalize hhv : t.issH o g x3 = hv at *
  generalize her : t.issE o g = er at *
  have HHV := Lib.hid (And.intro hhv her)
  clear hT hE hba hbb hbx hax hi hz0 hhv her
  by_cases hr : er = 0
  · rcases hx with hx | hx | hx | hx
    · subst hr
      go_enter Try.func12, Try.ntmps12
      go_wp2_with fail
      generalize (w.alloc (.cells #[.int .u16 x0, .int .u16 x1, .int .u16 x2, .int .u16 x3] 36)).alloc (.cells #[.int .i64 x3, .int .i64 16] 42) = w1 at *
      have k1 : ∀ z : Later w1, z.val.cell? ⟨w.heap.size, 1, none⟩ = some (.int .u16 x1) := fun z => later_old z y1
      have k2 : ∀ z : Later w1, z.val.cell? ⟨w.heap.size, 2, none⟩ = some (.int .u16 x2) := fun z => later_old z y2
      have k3 : ∀ z : Later w1, z.val.cell? ⟨w.heap.size, 3, none⟩ = some (.int .u16 x3) := fun z => later_old z y3
      refine wp_region_later (by kernel_rfl) (by kernel_rfl) ?_
      repeat (go_big_quiet_step (fail))
      refine wpQuiet_nil ?_
      rintro w5 ⟨⟨_, hq⟩, rfl⟩
      replace y1 := (hq.cell (p := ⟨w.heap.size, 1, none⟩) (lt_of_some y1)).trans y1
      replace y2 := (hq.cell (p := ⟨w.heap.size, 2, none⟩) (lt_of_some y2)).trans y2
      replace y3 := (hq.cell (p := ⟨w.heap.size, 3, none⟩) (lt_of_some y3)).trans y3
      replace a0 := (hq.cell (p := ⟨w.heap.size + 1, 0, none⟩) (lt_of_some a0)).trans a0
      replace a1 := (hq.cell (p := ⟨w.heap.size + 1, 1, none⟩) (lt_of_some a1)).trans a1
      have HQ := Lib.hid hq
      clear hq k1 k2 k3
      have HT5 := Lib.hid (HT0.out.go HQ.out)
      have HE5 := Lib.hid (HE0.out.go HQ.out (c' := rc (rc c w.heap.size 0) w1.heap.size 0) (fun g hg => rc_old hg))
      have HB5 := Lib.hid (HBA.out.trans (HQ.out.mono HT0.out.bd))
      have HC5 : Hid (rc (rc c w.heap.size 0) w1.heap.size 0 w.heap.size = 0 ∧ rc (rc c w.heap.size 0) w1.heap.size 0 (w.heap.size + 1) = 0) := Lib.hid ⟨by rw [rc_old (by omega)]; exact rc_new (Nat.le_refl _), by rw [rc_old (by omega)]; exact rc_new (by omega)⟩
      have hzq := HQ.out.size
      generalize rc (rc c w.heap.size 0) w1.heap.size 0 = c5 at *
      have HS := Lib.hid (issT_any w5 c5 1 p N t o g x3 16 x3 HT5.out.tb HT5.out.wf hN (by omega))
      unfold IsE at HS
      have HV : Hid (∀ W C, Hmb W C 2 m t → Calls Try.prog 30 #[.pointer (some ⟨m, 0, none⟩), .int .i64 o, .int .i64 g, .agg #[.int .i64 x3, .int .i64 16], .int .u64 x3] W (IsE Hmb W C 2 m t o g x3 16 x3)) := Lib.hid (fun W C hM => issM13_any W C 2 m N t o g x3 16 x3 hM HT5.out.wf hN (by omega))
      rw [HHV.out.1, HHV.out.2] at HS
      go_wp2_with fail
      refine HS.out.mono ?_
      rintro e w3 ⟨rfl, hT3, hk3⟩
      have hk3z := Kz.ofKept hk3 (by omega)
      have z3 := hk3z.cell HC5.out.1 y3
      have b0 := hk3z.cell HC5.out.2 a0
      have b1 := hk3z.cell HC5.out.2 a1
      have HM := Lib.hid (HV.out w3 _ (HT5.out.mid hk3))
      unfold IsE at HM
      rw [HHV.out.1, HHV.out.2] at HM
      have HT3 := Lib.hid hT3
      have HK3 := Lib.hid hk3
      clear hT3 hk3 hk3z HS HV y0 y1 y2 y3 a0 a1
      go_wp2_with fail
      refine HM.out.mono ?_
      rintro e w4 ⟨rfl, hM4, hk4⟩
      obtain ⟨hT4, hz4⟩ := HT5.out.both HT3.out HK3.out hM4 hk4 HWF.out
      have HT4 := Lib.hid hT4
      have HE4 := Lib.hid (HE5.out.kz hz4 (fun g hg => both_old hg HK3.out.size))
      have HB4 := Lib.hid (HB5.out.trans (hz4.below HT5.out.lo HT5.out.bd))
      clear hM4 hk4 hT4 hz4 HM z3 b0 b1
      generalize rc (rc c5 w5.heap.size 1) w3.heap.size 2 = c4 at *
      have hba : Below w4.heap.size w4 (w4.alloc (.cells #[] 39)) := (Below.refl _ _).alloc (Nat.le_refl _) _
      have HBA4 := Lib.hid hba
      have hza : (w4.alloc (.cells #[] 39)).heap.size = w4.heap.size + 1 := by simp
      have ho1 : OwnK han1 39 (w4.alloc (.cells #[] 39)) w4.heap.size (.slice (some ⟨w4.heap.size, 0, none⟩) 0 0) [] := World.ownsRow_made _ #[] 0 (Nat.le_refl _) (Nat.zero_le _) rfl
      have HO1 := Lib.hid ho1
      have HK4 := Lib.hid (HE4.out.row.alloc (.cells #[] 39))
      have HL4 := Lib.hid HE4.out.row.len
      clear hba ho1
      go_wp2_with (at_builtin; go_must (first
        | (refine wpList_appK _ rfl (.tmp 94) (.tmp 95) 32 rfl Try.underlying32 HI.out HZ.out rfl hz1 (by omega) HO1.out rfl HK4.out rfl (by simp; omega) (by omega) ?_
           intro v12 w12 ho12 hb12 hg12
           rw [List.nil_append] at ho12
           obtain ⟨A12, n12, c12, rfl, hx12⟩ := ho12.shape
           have HN12 : Hid (n12 = n) := Lib.hid (hx12.len.symm.trans HL4.out)
           have HB12 := Lib.hid (HBA4.out.trans hb12)
           have HO12 := Lib.hid (ho12.alloc (.cells #[.int .u64 hv] 39))
           have HY12 : Hid (Kws han1 (w12.alloc (.cells #[.int .u64 hv] 39)) (w12.heap.size + 1) (some ⟨w12.heap.size, 0, none⟩) 1 1 [hv]) := Lib.hid (Kws.new (E := han1) w12 [hv] _ _ 1 rfl rfl (by unfold maxLen; omega))
           have hz12 := HB12.out.size
           clear ho12 hb12 hg12 hx12)
        | (refine wpList_appK _ rfl (.tmp 96) (.tmp 98) 32 rfl Try.underlying32 HI.out HZ.out rfl hz1 (by omega) HO12.out rfl HY12.out rfl (by have := HL4.out; omega) (by simp; omega) ?_
           intro v14 w14 ho14 hb14 hg14
           obtain ⟨A14, n14, c14, rfl, hx14⟩ := ho14.shape
           have HBE := Lib.hid ((HB12.out.alloc hz12 (.cells #[.int .u64 hv] 39)).trans hb14)
           have HO14 := Lib.hid ho14
           have HX14 := Lib.hid hx14
           have HN14 : Hid (n14 = n + 1) := Lib.hid (by have h1 := hx14.len; rw [List.length_append, HL4.out] at h1; simpa using h1.symm)
           clear ho14 hb14 hg14 hx14)))
      go_ret2
      refine ⟨_, _, _, rfl, HB4.out.trans (HBE.out.mono HT4.out.bd), _, _, _, HT4.out.go HBE.out, ⟨HX14.out, fun _ a ha => ?_, fun x hx => ?_⟩, by have := HN14.out; omega⟩
      · cases ha
        exact rc_new (HO14.out.ge rfl).1
      · rcases List.mem_append.1 hx with hx | hx
        · exact HE4.out.u64 x hx
        · obtain rfl := List.mem_singleton.1 hx
          exact HU.out
    · subst hr
      go_enter Try.func12, Try.ntmps12
      go_wp2_with fail
      generalize (w.alloc (.cells #[.int .u16 x0, .int .u16 x1, .int .u16 x2, .int .u16 x3] 36)).alloc (.cells #[.int .i64 x3, .int .i64 16] 42) = w1 at *
      have k1 : ∀ z : Later w1, z.val.cell? ⟨w.heap.size, 1, none⟩ = some (.int .u16 x1) := fun z => later_old z y1
      have k2 : ∀ z : Later w1, z.val.cell? ⟨w.heap.size, 2, none⟩ = some (.int .u16 x2) := fun z => later_old z y2
      have k3 : ∀ z : Later w1, z.val.cell? ⟨w.heap.size, 3, none⟩ = some (.int .u16 x3) := fun z => later_old z y3
      refine wp_region_later (by kernel_rfl) (by kernel_rfl) ?_
      repeat (go_big_quiet_step (fail))
      refine wpQuiet_nil ?_
      rintro w5 ⟨⟨_, hq⟩, rfl⟩
      replace y1 := (hq.cell (p := ⟨w.heap.size, 1, none⟩) (lt_of_some y1)).trans y1
      replace y2 := (hq.cell (p := ⟨w.heap.size, 2, none⟩) (lt_of_some y2)).trans y2
      replace y3 := (hq.cell (p := ⟨w.heap.size, 3, none⟩) (lt_of_some y3)).trans y3
      replace a0 := (hq.cell (p := ⟨w.heap.size + 1, 0, none⟩) (lt_of_some a0)).trans a0
      replace a1 := (hq.cell (p := ⟨w.heap.size + 1, 1, none⟩) (lt_of_some a1)).trans a1
      have HQ := Lib.hid hq
      clear hq k1 k2 k3
      have HT5 := Lib.hid (HT0.out.go HQ.out)
      have HE5 := Lib.hid (HE0.out.go HQ.out (c' := rc (rc c w.heap.size 0) w1.heap.size 0) (fun g hg => rc_old hg))
      have HB5 := Lib.hid (HBA.out.trans (HQ.out.mono HT0.out.bd))
      have HC5 : Hid (rc (rc c w.heap.size 0) w1.heap.size 0 w.heap.size = 0 ∧ rc (rc c w.heap.size 0) w1.heap.size 0 (w.heap.size + 1) = 0) := Lib.hid ⟨by rw [rc_old (by omega)]; exact rc_new (Nat.le_refl _), by rw [rc_old (by omega)]; exact rc_new (by omega)⟩
      have hzq := HQ.out.size
      generalize rc (rc c w.heap.size 0) w1.heap.size 0 = c5 at *
      have HS := Lib.hid (issT_any w5 c5 1 p N t o g x3 16 x3 HT5.out.tb HT5.out.wf hN (by omega))
      unfold IsE at HS
      have HV : Hid (∀ W C, Hmb W C 2 m t → Calls Try.prog 30 #[.pointer (some ⟨m, 0, none⟩), .int .i64 o, .int .i64 g, .agg #[.int .i64 x3, .int .i64 16], .int .u64 x3] W (IsE Hmb W C 2 m t o g x3 16 x3)) := Lib.hid (fun W C hM => issM13_any W C 2 m N t o g x3 16 x3 hM HT5.out.wf hN (by omega))
      rw [HHV.out.1, HHV.out.2] at HS
      go_wp2_with fail
      refine HS.out.mono ?_
      rintro e w3 ⟨rfl, hT3, hk3⟩
      have hk3z := Kz.ofKept hk3 (by omega)
      have z3 := hk3z.cell HC5.out.1 y3
      have b0 := hk3z.cell HC5.out.2 a0
      have b1 := hk3z.cell HC5.out.2 a1
      have HM := Lib.hid (HV.out w3 _ (HT5.out.mid hk3))
      unfold IsE at HM
      rw [HHV.out.1, HHV.out.2] at HM
      have HT3 := Lib.hid hT3
      have HK3 := Lib.hid hk3
      clear hT3 hk3 hk3z HS HV y0 y1 y2 y3 a0 a1
      go_wp2_with fail
      refine HM.out.mono ?_
      rintro e w4 ⟨rfl, hM4, hk4⟩
      obtain ⟨hT4, hz4⟩ := HT5.out.both HT3.out HK3.out hM4 hk4 HWF.out
      have HT4 := Lib.hid hT4
      have HE4 := Lib.hid (HE5.out.kz hz4 (fun g hg => both_old hg HK3.out.size))
      have HB4 := Lib.hid (HB5.out.trans (hz4.below HT5.out.lo HT5.out.bd))
      clear hM4 hk4 hT4 hz4 HM z3 b0 b1
      generalize rc (rc c5 w5.heap.size 1) w3.heap.size 2 = c4 at *
      have hba : Below w4.heap.size w4 (w4.alloc (.cells #[] 39)) := (Below.refl _ _).alloc (Nat.le_refl _) _
      have HBA4 := Lib.hid hba
      have hza : (w4.alloc (.cells #[] 39)).heap.size = w4.heap.size + 1 := by simp
      have ho1 : OwnK han1 39 (w4.alloc (.cells #[] 39)) w4.heap.size (.slice (some ⟨w4.heap.size, 0, none⟩) 0 0) [] := World.ownsRow_made _ #[] 0 (Nat.le_refl _) (Nat.zero_le _) rfl
      have HO1 := Lib.hid ho1
      have HK4 := Lib.hid (HE4.out.row.alloc (.cells #[] 39))
      have HL4 := Lib.hid HE4.out.row.len
      clear hba ho1
      go_wp2_with (at_builtin; go_must (first
        | (refine wpList_appK _ rfl (.tmp 94) (.tmp 95) 32 rfl Try.underlying32 HI.out HZ.out rfl hz1 (by omega) HO1.out rfl HK4.out rfl (by simp; omega) (by omega) ?_
           intro v12 w12 ho12 hb12 hg12
           rw [List.nil_append] at ho12
           obtain ⟨A12, n12, c12, rfl, hx12⟩ := ho12.shape
           have HN12 : Hid (n12 = n) := Lib.hid (hx12.len.symm.trans HL4.out)
           have HB12 := Lib.hid (HBA4.out.trans hb12)
           have HO12 := Lib.hid (ho12.alloc (.cells #[.int .u64 hv] 39))
           have HY12 : Hid (Kws han1 (w12.alloc (.cells #[.int .u64 hv] 39)) (w12.heap.size + 1) (some ⟨w12.heap.size, 0, none⟩) 1 1 [hv]) := Lib.hid (Kws.new (E := han1) w12 [hv] _ _ 1 rfl rfl (by unfold maxLen; omega))
           have hz12 := HB12.out.size
           clear ho12 hb12 hg12 hx12)
        | (refine wpList_appK _ rfl (.tmp 96) (.tmp 98) 32 rfl Try.underlying32 HI.out HZ.out rfl hz1 (by omega) HO12.out rfl HY12.out rfl (by have := HL4.out; omega) (by simp; omega) ?_
           intro v14 w14 ho14 hb14 hg14
           obtain ⟨A14, n14, c14, rfl, hx14⟩ := ho14.shape
           have HBE := Lib.hid ((HB12.out.alloc hz12 (.cells #[.int .u64 hv] 39)).trans hb14)
           have HO14 := Lib.hid ho14
           have HX14 := Lib.hid hx14
           have HN14 : Hid (n14 = n + 1) := Lib.hid (by have h1 := hx14.len; rw [List.length_append, HL4.out] at h1; simpa using h1.symm)
           clear ho14 hb14 hg14 hx14)))
      go_ret2
      refine ⟨_, _, _, rfl, HB4.out.trans (HBE.out.mono HT4.out.bd), _, _, _, HT4.out.go HBE.out, ⟨HX14.out, fun _ a ha => ?_, fun x hx => ?_⟩, by have := HN14.out; omega⟩
      · cases ha
        exact rc_new (HO14.out.ge rfl).1
      · rcases List.mem_append.1 hx with hx | hx
        · exact HE4.out.u64 x hx
        · obtain rfl := List.mem_singleton.1 hx
          exact HU.out
    · subst hr
      go_enter Try.func12, Try.ntmps12
      go_wp2_with fail
      generalize (w.alloc (.cells #[.int .u16 x0, .int .u16 x1, .int .u16 x2, .int .u16 x3] 36)).alloc (.cells #[.int .i64 x3, .int .i64 16] 42) = w1 at *
      have k1 : ∀ z : Later w1, z.val.cell? ⟨w.heap.size, 1, none⟩ = some (.int .u16 x1) := fun z => later_old z y1
      have k2 : ∀ z : Later w1, z.val.cell? ⟨w.heap.size, 2, none⟩ = some (.int .u16 x2) := fun z => later_old z y2
      have k3 : ∀ z : Later w1, z.val.cell? ⟨w.heap.size, 3, none⟩ = some (.int .u16 x3) := fun z => later_old z y3
      refine wp_region_later (by kernel_rfl) (by kernel_rfl) ?_
      repeat (go_big_quiet_step (fail))
      refine wpQuiet_nil ?_
      rintro w5 ⟨⟨_, hq⟩, rfl⟩
      replace y1 := (hq.cell (p := ⟨w.heap.size, 1, none⟩) (lt_of_some y1)).trans y1
      replace y2 := (hq.cell (p := ⟨w.heap.size, 2, none⟩) (lt_of_some y2)).trans y2
      replace y3 := (hq.cell (p := ⟨w.heap.size, 3, none⟩) (lt_of_some y3)).trans y3
      replace a0 := (hq.cell (p := ⟨w.heap.size + 1, 0, none⟩) (lt_of_some a0)).trans a0
      replace a1 := (hq.cell (p := ⟨w.heap.size + 1, 1, none⟩) (lt_of_some a1)).trans a1
      have HQ := Lib.hid hq
      clear hq k1 k2 k3
      have HT5 := Lib.hid (HT0.out.go HQ.out)
      have HE5 := Lib.hid (HE0.out.go HQ.out (c' := rc (rc c w.heap.size 0) w1.heap.size 0) (fun g hg => rc_old hg))
      have HB5 := Lib.hid (HBA.out.trans (HQ.out.mono HT0.out.bd))
      have HC5 : Hid (rc (rc c w.heap.size 0) w1.heap.size 0 w.heap.size = 0 ∧ rc (rc c w.heap.size 0) w1.heap.size 0 (w.heap.size + 1) = 0) := Lib.hid ⟨by rw [rc_old (by omega)]; exact rc_new (Nat.le_refl _), by rw [rc_old (by omega)]; exact rc_new (by omega)⟩
      have hzq := HQ.out.size
      generalize rc (rc c w.heap.size 0) w1.heap.size 0 = c5 at *
      have HS := Lib.hid (issT_any w5 c5 1 p N t o g x3 16 x3 HT5.out.tb HT5.out.wf hN (by omega))
      unfold IsE at HS
      have HV : Hid (∀ W C, Hmb W C 2 m t → Calls Try.prog 30 #[.pointer (some ⟨m, 0, none⟩), .int .i64 o, .int .i64 g, .agg #[.int .i64 x3, .int .i64 16], .int .u64 x3] W (IsE Hmb W C 2 m t o g x3 16 x3)) := Lib.hid (fun W C hM => issM13_any W C 2 m N t o g x3 16 x3 hM HT5.out.wf hN (by omega))
      rw [HHV.out.1, HHV.out.2] at HS
      go_wp2_with fail
      refine HS.out.mono ?_
      rintro e w3 ⟨rfl, hT3, hk3⟩
      have hk3z := Kz.ofKept hk3 (by omega)
      have z3 := hk3z.cell HC5.out.1 y3
      have b0 := hk3z.cell HC5.out.2 a0
      have b1 := hk3z.cell HC5.out.2 a1
      have HM := Lib.hid (HV.out w3 _ (HT5.out.mid hk3))
      unfold IsE at HM
      rw [HHV.out.1, HHV.out.2] at HM
      have HT3 := Lib.hid hT3
      have HK3 := Lib.hid hk3
      clear hT3 hk3 hk3z HS HV y0 y1 y2 y3 a0 a1
      go_wp2_with fail
      refine HM.out.mono ?_
      rintro e w4 ⟨rfl, hM4, hk4⟩
      obtain ⟨hT4, hz4⟩ := HT5.out.both HT3.out HK3.out hM4 hk4 HWF.out
      have HT4 := Lib.hid hT4
      have HE4 := Lib.hid (HE5.out.kz hz4 (fun g hg => both_old hg HK3.out.size))
      have HB4 := Lib.hid (HB5.out.trans (hz4.below HT5.out.lo HT5.out.bd))
      clear hM4 hk4 hT4 hz4 HM z3 b0 b1
      generalize rc (rc c5 w5.heap.size 1) w3.heap.size 2 = c4 at *
      have hba : Below w4.heap.size w4 (w4.alloc (.cells #[] 39)) := (Below.refl _ _).alloc (Nat.le_refl _) _
      have HBA4 := Lib.hid hba
      have hza : (w4.alloc (.cells #[] 39)).heap.size = w4.heap.size + 1 := by simp
      have ho1 : OwnK han1 39 (w4.alloc (.cells #[] 39)) w4.heap.size (.slice (some ⟨w4.heap.size, 0, none⟩) 0 0) [] := World.ownsRow_made _ #[] 0 (Nat.le_refl _) (Nat.zero_le _) rfl
      have HO1 := Lib.hid ho1
      have HK4 := Lib.hid (HE4.out.row.alloc (.cells #[] 39))
      have HL4 := Lib.hid HE4.out.row.len
      clear hba ho1
      go_wp2_with (at_builtin; go_must (first
        | (refine wpList_appK _ rfl (.tmp 94) (.tmp 95) 32 rfl Try.underlying32 HI.out HZ.out rfl hz1 (by omega) HO1.out rfl HK4.out rfl (by simp; omega) (by omega) ?_
           intro v12 w12 ho12 hb12 hg12
           rw [List.nil_append] at ho12
           obtain ⟨A12, n12, c12, rfl, hx12⟩ := ho12.shape
           have HN12 : Hid (n12 = n) := Lib.hid (hx12.len.symm.trans HL4.out)
           have HB12 := Lib.hid (HBA4.out.trans hb12)
           have HO12 := Lib.hid (ho12.alloc (.cells #[.int .u64 hv] 39))
           have HY12 : Hid (Kws han1 (w12.alloc (.cells #[.int .u64 hv] 39)) (w12.heap.size + 1) (some ⟨w12.heap.size, 0, none⟩) 1 1 [hv]) := Lib.hid (Kws.new (E := han1) w12 [hv] _ _ 1 rfl rfl (by unfold maxLen; omega))
           have hz12 := HB12.out.size
           clear ho12 hb12 hg12 hx12)
        | (refine wpList_appK _ rfl (.tmp 96) (.tmp 98) 32 rfl Try.underlying32 HI.out HZ.out rfl hz1 (by omega) HO12.out rfl HY12.out rfl (by have := HL4.out; omega) (by simp; omega) ?_
           intro v14 w14 ho14 hb14 hg14
           obtain ⟨A14, n14, c14, rfl, hx14⟩ := ho14.shape
           have HBE := Lib.hid ((HB12.out.alloc hz12 (.cells #[.int .u64 hv] 39)).trans hb14)
           have HO14 := Lib.hid ho14
           have HX14 := Lib.hid hx14
           have HN14 : Hid (n14 = n + 1) := Lib.hid (by have h1 := hx14.len; rw [List.length_append, HL4.out] at h1; simpa using h1.symm)
           clear ho14 hb14 hg14 hx14)))
      go_ret2
      refine ⟨_, _, _, rfl, HB4.out.trans (HBE.out.mono HT4.out.bd), _, _, _, HT4.out.go HBE.out, ⟨HX14.out, fun _ a ha => ?_, fun x hx => ?_⟩, by have := HN14.out; omega⟩
      · cases ha
        exact rc_new (HO14.out.ge rfl).1
      · rcases List.mem_append.1 hx with hx | hx
        · exact HE4.out.u64 x hx
        · obtain rfl := List.mem_singleton.1 hx
          exact HU.out
    · subst hr
      go_enter Try.func12, Try.ntmps12
      go_wp2_with fail
      generalize (w.alloc (.cells #[.int .u16 x0, .int .u16 x1, .int .u16 x2, .int .u16 x3] 36)).alloc (.cells #[.int .i64 x3, .int .i64 16] 42) = w1 at *
      have k1 : ∀ z : Later w1, z.val.cell? ⟨w.heap.size, 1, none⟩ = some (.int .u16 x1) := fun z => later_old z y1
      have k2 : ∀ z : Later w1, z.val.cell? ⟨w.heap.size, 2, none⟩ = some (.int .u16 x2) := fun z => later_old z y2
      have k3 : ∀ z : Later w1, z.val.cell? ⟨w.heap.size, 3, none⟩ = some (.int .u16 x3) := fun z => later_old z y3
      refine wp_region_later (by kernel_rfl) (by kernel_rfl) ?_
      repeat (go_big_quiet_step (fail))
      refine wpQuiet_nil ?_
      rintro w5 ⟨⟨_, hq⟩, rfl⟩
      replace y1 := (hq.cell (p := ⟨w.heap.size, 1, none⟩) (lt_of_some y1)).trans y1
      replace y2 := (hq.cell (p := ⟨w.heap.size, 2, none⟩) (lt_of_some y2)).trans y2
      replace y3 := (hq.cell (p := ⟨w.heap.size, 3, none⟩) (lt_of_some y3)).trans y3
      replace a0 := (hq.cell (p := ⟨w.heap.size + 1, 0, none⟩) (lt_of_some a0)).trans a0
      replace a1 := (hq.cell (p := ⟨w.heap.size + 1, 1, none⟩) (lt_of_some a1)).trans a1
      have HQ := Lib.hid hq
      clear hq k1 k2 k3
      have HT5 := Lib.hid (HT0.out.go HQ.out)
      have HE5 := Lib.hid (HE0.out.go HQ.out (c' := rc (rc c w.heap.size 0) w1.heap.size 0) (fun g hg => rc_old hg))
      have HB5 := Lib.hid (HBA.out.trans (HQ.out.mono HT0.out.bd))
      have HC5 : Hid (rc (rc c w.heap.size 0) w1.heap.size 0 w.heap.size = 0 ∧ rc (rc c w.heap.size 0) w1.heap.size 0 (w.heap.size + 1) = 0) := Lib.hid ⟨by rw [rc_old (by omega)]; exact rc_new (Nat.le_refl _), by rw [rc_old (by omega)]; exact rc_new (by omega)⟩
      have hzq := HQ.out.size
      generalize rc (rc c w.heap.size 0) w1.heap.size 0 = c5 at *
      have HS := Lib.hid (issT_any w5 c5 1 p N t o g x3 16 x3 HT5.out.tb HT5.out.wf hN (by omega))
      unfold IsE at HS
      have HV : Hid (∀ W C, Hmb W C 2 m t → Calls Try.prog 30 #[.pointer (some ⟨m, 0, none⟩), .int .i64 o, .int .i64 g, .agg #[.int .i64 x3, .int .i64 16], .int .u64 x3] W (IsE Hmb W C 2 m t o g x3 16 x3)) := Lib.hid (fun W C hM => issM13_any W C 2 m N t o g x3 16 x3 hM HT5.out.wf hN (by omega))
      rw [HHV.out.1, HHV.out.2] at HS
      go_wp2_with fail
      refine HS.out.mono ?_
      rintro e w3 ⟨rfl, hT3, hk3⟩
      have hk3z := Kz.ofKept hk3 (by omega)
      have z3 := hk3z.cell HC5.out.1 y3
      have b0 := hk3z.cell HC5.out.2 a0
      have b1 := hk3z.cell HC5.out.2 a1
      have HM := Lib.hid (HV.out w3 _ (HT5.out.mid hk3))
      unfold IsE at HM
      rw [HHV.out.1, HHV.out.2] at HM
      have HT3 := Lib.hid hT3
      have HK3 := Lib.hid hk3
      clear hT3 hk3 hk3z HS HV y0 y1 y2 y3 a0 a1
      go_wp2_with fail
      refine HM.out.mono ?_
      rintro e w4 ⟨rfl, hM4, hk4⟩
      obtain ⟨hT4, hz4⟩ := HT5.out.both HT3.out HK3.out hM4 hk4 HWF.out
      have HT4 := Lib.hid hT4
      have HE4 := Lib.hid (HE5.out.kz hz4 (fun g hg => both_old hg HK3.out.size))
      have HB4 := Lib.hid (HB5.out.trans (hz4.below HT5.out.lo HT5.out.bd))
      clear hM4 hk4 hT4 hz4 HM z3 b0 b1
      generalize rc (rc c5 w5.heap.size 1) w3.heap.size 2 = c4 at *
      have hba : Below w4.heap.size w4 (w4.alloc (.cells #[] 39)) := (Below.refl _ _).alloc (Nat.le_refl _) _
      have HBA4 := Lib.hid hba
      have hza : (w4.alloc (.cells #[] 39)).heap.size = w4.heap.size + 1 := by simp
      have ho1 : OwnK han1 39 (w4.alloc (.cells #[] 39)) w4.heap.size (.slice (some ⟨w4.heap.size, 0, none⟩) 0 0) [] := World.ownsRow_made _ #[] 0 (Nat.le_refl _) (Nat.zero_le _) rfl
      have HO1 := Lib.hid ho1
      have HK4 := Lib.hid (HE4.out.row.alloc (.cells #[] 39))
      have HL4 := Lib.hid HE4.out.row.len
      clear hba ho1
      go_wp2_with (at_builtin; go_must (first
        | (refine wpList_appK _ rfl (.tmp 94) (.tmp 95) 32 rfl Try.underlying32 HI.out HZ.out rfl hz1 (by omega) HO1.out rfl HK4.out rfl (by simp; omega) (by omega) ?_
           intro v12 w12 ho12 hb12 hg12
           rw [List.nil_append] at ho12
           obtain ⟨A12, n12, c12, rfl, hx12⟩ := ho12.shape
           have HN12 : Hid (n12 = n) := Lib.hid (hx12.len.symm.trans HL4.out)
           have HB12 := Lib.hid (HBA4.out.trans hb12)
           have HO12 := Lib.hid (ho12.alloc (.cells #[.int .u64 hv] 39))
           have HY12 : Hid (Kws han1 (w12.alloc (.cells #[.int .u64 hv] 39)) (w12.heap.size + 1) (some ⟨w12.heap.size, 0, none⟩) 1 1 [hv]) := Lib.hid (Kws.new (E := han1) w12 [hv] _ _ 1 rfl rfl (by unfold maxLen; omega))
           have hz12 := HB12.out.size
           clear ho12 hb12 hg12 hx12)
        | (refine wpList_appK _ rfl (.tmp 96) (.tmp 98) 32 rfl Try.underlying32 HI.out HZ.out rfl hz1 (by omega) HO12.out rfl HY12.out rfl (by have := HL4.out; omega) (by simp; omega) ?_
           intro v14 w14 ho14 hb14 hg14
           obtain ⟨A14, n14, c14, rfl, hx14⟩ := ho14.shape
           have HBE := Lib.hid ((HB12.out.alloc hz12 (.cells #[.int .u64 hv] 39)).trans hb14)
           have HO14 := Lib.hid ho14
           have HX14 := Lib.hid hx14
           have HN14 : Hid (n14 = n + 1) := Lib.hid (by have h1 := hx14.len; rw [List.length_append, HL4.out] at h1; simpa using h1.symm)
           clear ho14 hb14 hg14 hx14)))
      go_ret2
      refine ⟨_, _, _, rfl, HB4.out.trans (HBE.out.mono HT4.out.bd), _, _, _, HT4.out.go HBE.out, ⟨HX14.out, fun _ a ha => ?_, fun x hx => ?_⟩, by have := HN14.out; omega⟩
      · cases ha
        exact rc_new (HO14.out.ge rfl).1
      · rcases List.mem_append.1 hx with hx | hx
        · exact HE4.out.u64 x hx
        · obtain rfl := List.mem_singleton.1 hx
          exact HU.out
  · rcases hx with hx | hx | hx | hx
    · have erb : (er == 0) = false := by simpa using hr
      go_enter Try.func12, Try.ntmps12
      go_wp2_with fail
      generalize (w.alloc (.cells #[.int .u16 x0, .int .u16 x1, .int .u16 x2, .int .u16 x3] 36)).alloc (.cells #[.int .i64 x3, .int .i64 16] 42) = w1 at *
      have k1 : ∀ z : Later w1, z.val.cell? ⟨w.heap.size, 1, none⟩ = some (.int .u16 x1) := fun z => later_old z y1
      have k2 : ∀ z : Later w1, z.val.cell? ⟨w.heap.size, 2, none⟩ = some (.int .u16 x2) := fun z => later_old z y2
      have k3 : ∀ z : Later w1, z.val.cell? ⟨w.heap.size, 3, none⟩ = some (.int .u16 x3) := fun z => later_old z y3
      refine wp_region_later (by kernel_rfl) (by kernel_rfl) ?_
      repeat (go_big_quiet_step (fail))
      refine wpQuiet_nil ?_
      rintro w5 ⟨⟨_, hq⟩, rfl⟩
      replace y1 := (hq.cell (p := ⟨w.heap.size, 1, none⟩) (lt_of_some y1)).trans y1
      replace y2 := (hq.cell (p := ⟨w.heap.size, 2, none⟩) (lt_of_some y2)).trans y2
      replace y3 := (hq.cell (p := ⟨w.heap.size, 3, none⟩) (lt_of_some y3)).trans y3
      replace a0 := (hq.cell (p := ⟨w.heap.size + 1, 0, none⟩) (lt_of_some a0)).trans a0
      replace a1 := (hq.cell (p := ⟨w.heap.size + 1, 1, none⟩) (lt_of_some a1)).trans a1
      have HQ := Lib.hid hq
      clear hq k1 k2 k3
      have HT5 := Lib.hid (HT0.out.go HQ.out)
      have HE5 := Lib.hid (HE0.out.go HQ.out (c' := rc (rc c w.heap.size 0) w1.heap.size 0) (fun g hg => rc_old hg))
      have HB5 := Lib.hid (HBA.out.trans (HQ.out.mono HT0.out.bd))
      have HC5 : Hid (rc (rc c w.heap.size 0) w1.heap.size 0 w.heap.size = 0 ∧ rc (rc c w.heap.size 0) w1.heap.size 0 (w.heap.size + 1) = 0) := Lib.hid ⟨by rw [rc_old (by omega)]; exact rc_new (Nat.le_refl _), by rw [rc_old (by omega)]; exact rc_new (by omega)⟩
      have hzq := HQ.out.size
      generalize rc (rc c w.heap.size 0) w1.heap.size 0 = c5 at *
      have HS := Lib.hid (issT_any w5 c5 1 p N t o g x3 16 x3 HT5.out.tb HT5.out.wf hN (by omega))
      unfold IsE at HS
      have HV : Hid (∀ W C, Hmb W C 2 m t → Calls Try.prog 30 #[.pointer (some ⟨m, 0, none⟩), .int .i64 o, .int .i64 g, .agg #[.int .i64 x3, .int .i64 16], .int .u64 x3] W (IsE Hmb W C 2 m t o g x3 16 x3)) := Lib.hid (fun W C hM => issM13_any W C 2 m N t o g x3 16 x3 hM HT5.out.wf hN (by omega))
      rw [HHV.out.1, HHV.out.2] at HS
      go_wp2_with fail
      refine HS.out.mono ?_
      rintro e w3 ⟨rfl, hT3, hk3⟩
      have hk3z := Kz.ofKept hk3 (by omega)
      have z3 := hk3z.cell HC5.out.1 y3
      have b0 := hk3z.cell HC5.out.2 a0
      have b1 := hk3z.cell HC5.out.2 a1
      have HM := Lib.hid (HV.out w3 _ (HT5.out.mid hk3))
      unfold IsE at HM
      rw [HHV.out.1, HHV.out.2] at HM
      have HT3 := Lib.hid hT3
      have HK3 := Lib.hid hk3
      clear hT3 hk3 hk3z HS HV y0 y1 y2 y3 a0 a1
      go_wp2_with fail
      refine HM.out.mono ?_
      rintro e w4 ⟨rfl, hM4, hk4⟩
      obtain ⟨hT4, hz4⟩ := HT5.out.both HT3.out HK3.out hM4 hk4 HWF.out
      have HT4 := Lib.hid hT4
      have HE4 := Lib.hid (HE5.out.kz hz4 (fun g hg => both_old hg HK3.out.size))
      have HB4 := Lib.hid (HB5.out.trans (hz4.below HT5.out.lo HT5.out.bd))
      clear hM4 hk4 hT4 hz4 HM z3 b0 b1
      generalize rc (rc c5 w5.heap.size 1) w3.heap.size 2 = c4 at *
      go_wp2
      go_ret2
      exact ⟨_, _, _, rfl, HB4.out, _, _, _, HT4.out, HE4.out, by omega⟩
    · have erb : (er == 0) = false := by simpa using hr
      go_enter Try.func12, Try.ntmps12
      go_wp2_with fail
      generalize (w.alloc (.cells #[.int .u16 x0, .int .u16 x1, .int .u16 x2, .int .u16 x3] 36)).alloc (.cells #[.int .i64 x3, .int .i64 16] 42) = w1 at *
      have k1 : ∀ z : Later w1, z.val.cell? ⟨w.heap.size, 1, none⟩ = some (.int .u16 x1) := fun z => later_old z y1
      have k2 : ∀ z : Later w1, z.val.cell? ⟨w.heap.size, 2, none⟩ = some (.int .u16 x2) := fun z => later_old z y2
      have k3 : ∀ z : Later w1, z.val.cell? ⟨w.heap.size, 3, none⟩ = some (.int .u16 x3) := fun z => later_old z y3
      refine wp_region_later (by kernel_rfl) (by kernel_rfl) ?_
      repeat (go_big_quiet_step (fail))
      refine wpQuiet_nil ?_
      rintro w5 ⟨⟨_, hq⟩, rfl⟩
      replace y1 := (hq.cell (p := ⟨w.heap.size, 1, none⟩) (lt_of_some y1)).trans y1
      replace y2 := (hq.cell (p := ⟨w.heap.size, 2, none⟩) (lt_of_some y2)).trans y2
      replace y3 := (hq.cell (p := ⟨w.heap.size, 3, none⟩) (lt_of_some y3)).trans y3
      replace a0 := (hq.cell (p := ⟨w.heap.size + 1, 0, none⟩) (lt_of_some a0)).trans a0
      replace a1 := (hq.cell (p := ⟨w.heap.size + 1, 1, none⟩) (lt_of_some a1)).trans a1
      have HQ := Lib.hid hq
      clear hq k1 k2 k3
      have HT5 := Lib.hid (HT0.out.go HQ.out)
      have HE5 := Lib.hid (HE0.out.go HQ.out (c' := rc (rc c w.heap.size 0) w1.heap.size 0) (fun g hg => rc_old hg))
      have HB5 := Lib.hid (HBA.out.trans (HQ.out.mono HT0.out.bd))
      have HC5 : Hid (rc (rc c w.heap.size 0) w1.heap.size 0 w.heap.size = 0 ∧ rc (rc c w.heap.size 0) w1.heap.size 0 (w.heap.size + 1) = 0) := Lib.hid ⟨by rw [rc_old (by omega)]; exact rc_new (Nat.le_refl _), by rw [rc_old (by omega)]; exact rc_new (by omega)⟩
      have hzq := HQ.out.size
      generalize rc (rc c w.heap.size 0) w1.heap.size 0 = c5 at *
      have HS := Lib.hid (issT_any w5 c5 1 p N t o g x3 16 x3 HT5.out.tb HT5.out.wf hN (by omega))
      unfold IsE at HS
      have HV : Hid (∀ W C, Hmb W C 2 m t → Calls Try.prog 30 #[.pointer (some ⟨m, 0, none⟩), .int .i64 o, .int .i64 g, .agg #[.int .i64 x3, .int .i64 16], .int .u64 x3] W (IsE Hmb W C 2 m t o g x3 16 x3)) := Lib.hid (fun W C hM => issM13_any W C 2 m N t o g x3 16 x3 hM HT5.out.wf hN (by omega))
      rw [HHV.out.1, HHV.out.2] at HS
      go_wp2_with fail
      refine HS.out.mono ?_
      rintro e w3 ⟨rfl, hT3, hk3⟩
      have hk3z := Kz.ofKept hk3 (by omega)
      have z3 := hk3z.cell HC5.out.1 y3
      have b0 := hk3z.cell HC5.out.2 a0
      have b1 := hk3z.cell HC5.out.2 a1
      have HM := Lib.hid (HV.out w3 _ (HT5.out.mid hk3))
      unfold IsE at HM
      rw [HHV.out.1, HHV.out.2] at HM
      have HT3 := Lib.hid hT3
      have HK3 := Lib.hid hk3
      clear hT3 hk3 hk3z HS HV y0 y1 y2 y3 a0 a1
      go_wp2_with fail
      refine HM.out.mono ?_
      rintro e w4 ⟨rfl, hM4, hk4⟩
      obtain ⟨hT4, hz4⟩ := HT5.out.both HT3.out HK3.out hM4 hk4 HWF.out
      have HT4 := Lib.hid hT4
      have HE4 := Lib.hid (HE5.out.kz hz4 (fun g hg => both_old hg HK3.out.size))
      have HB4 := Lib.hid (HB5.out.trans (hz4.below HT5.out.lo HT5.out.bd))
      clear hM4 hk4 hT4 hz4 HM z3 b0 b1
      generalize rc (rc c5 w5.heap.size 1) w3.heap.size 2 = c4 at *
      go_wp2
      go_ret2
      exact ⟨_, _, _, rfl, HB4.out, _, _, _, HT4.out, HE4.out, by omega⟩
    · have erb : (er == 0) = false := by simpa using hr
      go_enter Try.func12, Try.ntmps12
      go_wp2_with fail
      generalize (w.alloc (.cells #[.int .u16 x0, .int .u16 x1, .int .u16 x2, .int .u16 x3] 36)).alloc (.cells #[.int .i64 x3, .int .i64 16] 42) = w1 at *
      have k1 : ∀ z : Later w1, z.val.cell? ⟨w.heap.size, 1, none⟩ = some (.int .u16 x1) := fun z => later_old z y1
      have k2 : ∀ z : Later w1, z.val.cell? ⟨w.heap.size, 2, none⟩ = some (.int .u16 x2) := fun z => later_old z y2
      have k3 : ∀ z : Later w1, z.val.cell? ⟨w.heap.size, 3, none⟩ = some (.int .u16 x3) := fun z => later_old z y3
      refine wp_region_later (by kernel_rfl) (by kernel_rfl) ?_
      repeat (go_big_quiet_step (fail))
      refine wpQuiet_nil ?_
      rintro w5 ⟨⟨_, hq⟩, rfl⟩
      replace y1 := (hq.cell (p := ⟨w.heap.size, 1, none⟩) (lt_of_some y1)).trans y1
      replace y2 := (hq.cell (p := ⟨w.heap.size, 2, none⟩) (lt_of_some y2)).trans y2
      replace y3 := (hq.cell (p := ⟨w.heap.size, 3, none⟩) (lt_of_some y3)).trans y3
      replace a0 := (hq.cell (p := ⟨w.heap.size + 1, 0, none⟩) (lt_of_some a0)).trans a0
      replace a1 := (hq.cell (p := ⟨w.heap.size + 1, 1, none⟩) (lt_of_some a1)).trans a1
      have HQ := Lib.hid hq
      clear hq k1 k2 k3
      have HT5 := Lib.hid (HT0.out.go HQ.out)
      have HE5 := Lib.hid (HE0.out.go HQ.out (c' := rc (rc c w.heap.size 0) w1.heap.size 0) (fun g hg => rc_old hg))
      have HB5 := Lib.hid (HBA.out.trans (HQ.out.mono HT0.out.bd))
      have HC5 : Hid (rc (rc c w.heap.size 0) w1.heap.size 0 w.heap.size = 0 ∧ rc (rc c w.heap.size 0) w1.heap.size 0 (w.heap.size + 1) = 0) := Lib.hid ⟨by rw [rc_old (by omega)]; exact rc_new (Nat.le_refl _), by rw [rc_old (by omega)]; exact rc_new (by omega)⟩
      have hzq := HQ.out.size
      generalize rc (rc c w.heap.size 0) w1.heap.size 0 = c5 at *
      have HS := Lib.hid (issT_any w5 c5 1 p N t o g x3 16 x3 HT5.out.tb HT5.out.wf hN (by omega))
      unfold IsE at HS
      have HV : Hid (∀ W C, Hmb W C 2 m t → Calls Try.prog 30 #[.pointer (some ⟨m, 0, none⟩), .int .i64 o, .int .i64 g, .agg #[.int .i64 x3, .int .i64 16], .int .u64 x3] W (IsE Hmb W C 2 m t o g x3 16 x3)) := Lib.hid (fun W C hM => issM13_any W C 2 m N t o g x3 16 x3 hM HT5.out.wf hN (by omega))
      rw [HHV.out.1, HHV.out.2] at HS
      go_wp2_with fail
      refine HS.out.mono ?_
      rintro e w3 ⟨rfl, hT3, hk3⟩
      have hk3z := Kz.ofKept hk3 (by omega)
      have z3 := hk3z.cell HC5.out.1 y3
      have b0 := hk3z.cell HC5.out.2 a0
      have b1 := hk3z.cell HC5.out.2 a1
      have HM := Lib.hid (HV.out w3 _ (HT5.out.mid hk3))
      unfold IsE at HM
      rw [HHV.out.1, HHV.out.2] at HM
      have HT3 := Lib.hid hT3
      have HK3 := Lib.hid hk3
      clear hT3 hk3 hk3z HS HV y0 y1 y2 y3 a0 a1
      go_wp2_with fail
      refine HM.out.mono ?_
      rintro e w4 ⟨rfl, hM4, hk4⟩
      obtain ⟨hT4, hz4⟩ := HT5.out.both HT3.out HK3.out hM4 hk4 HWF.out
      have HT4 := Lib.hid hT4
      have HE4 := Lib.hid (HE5.out.kz hz4 (fun g hg => both_old hg HK3.out.size))
      have HB4 := Lib.hid (HB5.out.trans (hz4.below HT5.out.lo HT5.out.bd))
      clear hM4 hk4 hT4 hz4 HM z3 b0 b1
      generalize rc (rc c5 w5.heap.size 1) w3.heap.size 2 = c4 at *
      go_wp2
      go_ret2
      exact ⟨_, _, _, rfl, HB4.out, _, _, _, HT4.out, HE4.out, by omega⟩
    · have erb : (er == 0) = false := by simpa using hr
      go_enter Try.func12, Try.ntmps12
      go_wp2_with fail
      generalize (w.alloc (.cells #[.int .u16 x0, .int .u16 x1, .int .u16 x2, .int .u16 x3] 36)).alloc (.cells #[.int .i64 x3, .int .i64 16] 42) = w1 at *
      have k1 : ∀ z : Later w1, z.val.cell? ⟨w.heap.size, 1, none⟩ = some (.int .u16 x1) := fun z => later_old z y1
      have k2 : ∀ z : Later w1, z.val.cell? ⟨w.heap.size, 2, none⟩ = some (.int .u16 x2) := fun z => later_old z y2
      have k3 : ∀ z : Later w1, z.val.cell? ⟨w.heap.size, 3, none⟩ = some (.int .u16 x3) := fun z => later_old z y3
      refine wp_region_later (by kernel_rfl) (by kernel_rfl) ?_
      repeat (go_big_quiet_step (fail))
      refine wpQuiet_nil ?_
      rintro w5 ⟨⟨_, hq⟩, rfl⟩
      replace y1 := (hq.cell (p := ⟨w.heap.size, 1, none⟩) (lt_of_some y1)).trans y1
      replace y2 := (hq.cell (p := ⟨w.heap.size, 2, none⟩) (lt_of_some y2)).trans y2
      replace y3 := (hq.cell (p := ⟨w.heap.size, 3, none⟩) (lt_of_some y3)).trans y3
      replace a0 := (hq.cell (p := ⟨w.heap.size + 1, 0, none⟩) (lt_of_some a0)).trans a0
      replace a1 := (hq.cell (p := ⟨w.heap.size + 1, 1, none⟩) (lt_of_some a1)).trans a1
      have HQ := Lib.hid hq
      clear hq k1 k2 k3
      have HT5 := Lib.hid (HT0.out.go HQ.out)
      have HE5 := Lib.hid (HE0.out.go HQ.out (c' := rc (rc c w.heap.size 0) w1.heap.size 0) (fun g hg => rc_old hg))
      have HB5 := Lib.hid (HBA.out.trans (HQ.out.mono HT0.out.bd))
      have HC5 : Hid (rc (rc c w.heap.size 0) w1.heap.size 0 w.heap.size = 0 ∧ rc (rc c w.heap.size 0) w1.heap.size 0 (w.heap.size + 1) = 0) := Lib.hid ⟨by rw [rc_old (by omega)]; exact rc_new (Nat.le_refl _), by rw [rc_old (by omega)]; exact rc_new (by omega)⟩
      have hzq := HQ.out.size
      generalize rc (rc c w.heap.size 0) w1.heap.size 0 = c5 at *
      have HS := Lib.hid (issT_any w5 c5 1 p N t o g x3 16 x3 HT5.out.tb HT5.out.wf hN (by omega))
      unfold IsE at HS
      have HV : Hid (∀ W C, Hmb W C 2 m t → Calls Try.prog 30 #[.pointer (some ⟨m, 0, none⟩), .int .i64 o, .int .i64 g, .agg #[.int .i64 x3, .int .i64 16], .int .u64 x3] W (IsE Hmb W C 2 m t o g x3 16 x3)) := Lib.hid (fun W C hM => issM13_any W C 2 m N t o g x3 16 x3 hM HT5.out.wf hN (by omega))
      rw [HHV.out.1, HHV.out.2] at HS
      go_wp2_with fail
      refine HS.out.mono ?_
      rintro e w3 ⟨rfl, hT3, hk3⟩
      have hk3z := Kz.ofKept hk3 (by omega)
      have z3 := hk3z.cell HC5.out.1 y3
      have b0 := hk3z.cell HC5.out.2 a0
      have b1 := hk3z.cell HC5.out.2 a1
      have HM := Lib.hid (HV.out w3 _ (HT5.out.mid hk3))
      unfold IsE at HM
      rw [HHV.out.1, HHV.out.2] at HM
      have HT3 := Lib.hid hT3
      have HK3 := Lib.hid hk3
      clear hT3 hk3 hk3z HS HV y0 y1 y2 y3 a0 a1
      go_wp2_with fail
      refine HM.out.mono ?_
      rintro e w4 ⟨rfl, hM4, hk4⟩
      obtain ⟨hT4, hz4⟩ := HT5.out.both HT3.out HK3.out hM4 hk4 HWF.out
      have HT4 := Lib.hid hT4
      have HE4 := Lib.hid (HE5.out.kz hz4 (fun g hg => both_old hg HK3.out.size))
      have HB4 := Lib.hid (HB5.out.trans (hz4.below HT5.out.lo HT5.out.bd))
      clear hM4 hk4 hT4 hz4 HM z3 b0 b1
      generalize rc (rc c5 w5.heap.size 1) w3.heap.size 2 = c4 at *
      go_wp2
      go_ret2
      exact ⟨_, _, _, rfl, HB4.out, _, _, _, HT4.out, HE4.out, by omega⟩
theorem step13_any (B N : Nat) (w : World) (c : Nat → Nat) (p m : Nat) (t : Ht) (x0 x1 x2 x3 f : Int) (A : Option Addr) (n cc : Nat) (l : List Int) (hT : Tri B N w c p m t) (hE : Evr w c A n cc l) (hN : N ≤ 4096) (hn : n ≤ 100000) (h0 : 0 ≤ x0 ∧ x0 ≤ 65535) (h1 : 0 ≤ x1 ∧ x1 ≤ 65535) (h2 : 0 ≤ x2 ∧ x2 ≤ 65535) (h3 : 0 ≤ x3 ∧ x3 ≤ 65535) (hf : 1 ≤ f ∧ f ≤ 4294967295) :
    Calls Try.prog 12 #[.pointer (some ⟨p, 0, none⟩), .pointer (some ⟨m, 0, none⟩), .agg #[.int .u16 x0, .int .u16 x1, .int .u16 x2, .int .u16 x3], .int .i64 f, .slice A n cc] w (StE B N w p m n) := by
  by_cases ha : x0 % 8 < 4
  · have hx : x0 % 8 = 0 ∨ x0 % 8 = 1 ∨ x0 % 8 = 2 ∨ x0 % 8 = 3 := by omega
    by_cases h14 : x3 % 16 < 14
    · exact step13_iss1 B N w c p m t x0 x1 x2 x3 f A n cc l hT hE hN hn h0 h1 h2 h3 hf hx h14
    · by_cases h15 : x3 % 16 = 14
      · exact step13_iss2 B N w c p m t x0 x1 x2 x3 f A n cc l hT hE hN hn h0 h1 h2 h3 hf hx h15
      · exact step13_iss3 B N w c p m t x0 x1 x2 x3 f A n cc l hT hE hN hn h0 h1 h2 h3 hf hx (by omega)
  · by_cases hb : x0 % 8 < 6
    · exact step13_drop B N w c p m t x0 x1 x2 x3 f A n cc l hT hE hN hn h0 h1 h2 h3 hf (by omega)
    · exact step13_give B N w c p m t x0 x1 x2 x3 f A n cc l hT hE hN hn h0 h1 h2 h3 hf (by omega)
end Go.Proofs.Ytaoojgnkbcoggaa
