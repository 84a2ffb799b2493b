/-
  The law AuditPlays as a walk. Conditions: none.
-/
import Derived.Test.YtlgoiccekgjhnaaLpl
namespace Go.Proofs.Ytlgoiccekgjhnaa
open Go.ChangeShapes Go.WideShapes Go.ChangeAt Go.RowKit
set_option linter.unusedVariables false
set_option linter.unusedSimpArgs false
set_option maxHeartbeats 8000000
set_option maxRecDepth 100000

/-- Two blocks have colours. -/
def cpm (p m : Nat) : Nat → Nat := fun g => if g = p then 1 else if g = m then 2 else 0
theorem cpm_p (p m : Nat) : cpm p m p = 1 := if_pos rfl
theorem cpm_m {p m : Nat} (h : m ≠ p) : cpm p m m = 2 := by unfold cpm; rw [if_neg h, if_pos rfl]
theorem cpm_0 {p m g : Nat} (h : g ≠ p) (h' : g ≠ m) : cpm p m g = 0 := by unfold cpm; rw [if_neg h, if_neg h']
theorem cpm_1 {p m g : Nat} (h : cpm p m g = 1) : g = p := by
  unfold cpm at h
  split at h
  · assumption
  · split at h <;> omega
theorem cpm_2 {p m g : Nat} (h : cpm p m g = 2) : g = m := by
  unfold cpm at h
  split at h
  · omega
  · split at h
    · assumption
    · omega
theorem newL_is (cap : Int) (w : World) (h0 : 0 ≤ cap) (h1 : cap ≤ 65536) : Calls Try.prog 12 #[.int .i64 cap] w fun e w' => e = .returned (.tuple #[.pointer (some ⟨w.heap.size, 0, none⟩), .int .i64 0]) ∧ w' = w.alloc (.cells #[.int .i64 cap, .slice none 0 0, .int .u64 0, .map none, .map none] 50) := by
  have d0 : ¬ cap < 0 := by omega
  have d1 : ¬ 65536 < cap := by omega
  clear h0 h1
  go_enter Try.func12, Try.ntmps12
  go_wp2
  go_ret2
  exact ⟨rfl, rfl⟩
theorem PlE.alike {w0 W : World} {rb tb p m j eb : Nat} {cap : Int} {T : List Int} {y x : Ev5} {L : List Ev5} {M : List Int} (H : PlE w0 rb tb p m cap T y L M L M j eb x W) (z : Int) (hz : Ri z) (hl : L.length ≤ 1000) (hm : M.length ≤ 1000) :
    Calls Try.prog 18 #[.pointer (some ⟨p, 0, none⟩), .pointer (some ⟨m, 0, none⟩), .int .i64 z] W fun e W' => e = .returned (.bool true) ∧ Below W.heap.size W W' := by
  obtain ⟨c, h⟩ := H
  have hg := h.lg.1
  obtain ⟨last, h1, h2⟩ := h.lg.r
  exact alike17_any h2 h1 h.mg.r hg hl hm hz rfl rfl
theorem PlE.ev {w0 W : World} {rb tb p m j eb : Nat} {cap : Int} {T : List Int} {y x : Ev5} {L1 L2 : List Ev5} {M1 M2 : List Int} (H : PlE w0 rb tb p m cap T y L1 M1 L2 M2 j eb x W) : EvB W eb x.p x.o x.h x.a x.e ∧ EvB W rb y.p y.o y.h y.a y.e := by
  obtain ⟨c, h⟩ := H
  exact ⟨h.ev, h.box⟩
theorem PlE.mis {w0 W : World} {rb tb p m j eb : Nat} {cap : Int} {T : List Int} {y x : Ev5} {L1 L2 : List Ev5} {M1 M2 : List Int} (H : PlE w0 rb tb p m cap T y L1 M1 L2 M2 j eb x W) : ∃ A n cp A2 n2 c2, W.heap[m]? = some (.cells #[.int .i64 cap, .slice A2 n2 c2, .slice A n cp] 38 (0, 0)) ∧ Kws int1 W W.heap.size A n cp M2 := by
  obtain ⟨c, h⟩ := H
  obtain ⟨_, A, n, cp, A2, n2, cp2, h2, h3, h4⟩ := h.mg
  obtain ⟨A', n', c', e, hk⟩ := h4.1.shape
  cases e
  exact ⟨A2, n2, cp2, A, n, cp, h2, hk⟩
theorem apL_len (cap : Int) (L : List Ev5) (x : Ev5) : (apL cap L x).length ≤ L.length + 1 := by
  unfold apL
  split
  · simp
  · omega
theorem infoI : (Try.prog.info? 3).map (fun i => (i.zero, i.size, i.bytes)) = some (some (.int .i64 0), 1, 8) := by kernel_rfl
theorem auditPlays_walk (a0 : Int) (a1 : Option Addr) (len1 cap1 : Nat) (z1 : List Int) (y0 y1 y2 y3 y4 : Int) (a3 a4 : Int) (w : World) (w0 : (Lit.int .u8 a0).wf = true) (w1 : IsRow .u16 w a1 len1 cap1 z1) (w2 : EvW y0 y1 y2 y3 y4) (w3 : (Lit.int .u16 a3).wf = true) (w4 : (Lit.int .i8 a4).wf = true) :
    Calls Try.prog 3 #[.int .u8 a0, .slice a1 len1 cap1, .agg #[.int .i64 y0, .int .i64 y1, .int .u64 y2, .int .u64 y3, .int .i64 y4], .int .u16 a3, .int .i8 a4] w fun e w' => e = .returned (.bool true) ∧ Below w.heap.size w w' := by
  obtain ⟨i0, hi0, hz0, hz1, hz2⟩ := info_parts infoI
  obtain ⟨hrow, hfit⟩ := w1.row
  generalize z1.take len1 = T0 at hrow hfit
  have HRW := Lib.hid hrow
  have HFT := Lib.hid (hfit.take 160)
  have HOF := Lib.hid (fun W (hb : Below w.heap.size w W) => of_any a1 len1 cap1 T0 160 W ((hrow.below hb).more hb.size) (by omega))
  generalize T0.take 160 = T at *
  obtain ⟨b0, b1⟩ := byte_bd w0
  obtain ⟨b30, b31⟩ := u16_bd w3
  have b4 := Go.bounds_i8 w4
  have s0 : 0 ≤ a0 % 8 := Int.emod_nonneg _ (by omega)
  have s1 : a0 % 8 < 8 := Int.emod_lt_of_pos _ (by omega)
  have HWR : Hid (Word5 ⟨y0, y1, y2, y3, y4⟩) := Lib.hid ⟨w2.2.2.1, w2.2.2.2.1⟩
  have HR4 : Hid (Ri a4) := Lib.hid (Ri.of (by omega))
  obtain ⟨cap, hcap⟩ : ∃ cap, a0 % 8 = cap := ⟨_, rfl⟩
  rw [hcap] at s0 s1
  have hbr : Below w.heap.size w (w.alloc (.cells #[.int .i64 y0, .int .i64 y1, .int .u64 y2, .int .u64 y3, .int .i64 y4] 27)) := (Below.refl _ _).alloc (Nat.le_refl _) _
  have HBR := Lib.hid hbr
  have HXR := Lib.hid (EvB.new (w := w) (p := y0) (o := y1) (h := y2) (a := y3) (e := y4))
  have hxr := HXR.out
  obtain ⟨r0, r1, r2, r3, r4⟩ := hxr.cells
  have HAW := Lib.hid (fun W => aw17_any landed W)
  clear w0 w1 w2 w3 w4 hrow hfit hbr hxr
  go_enter Try.func3, Try.ntmps3
  go_wp2_with fail
  generalize w.alloc (.cells #[.int .i64 y0, .int .i64 y1, .int .u64 y2, .int .u64 y3, .int .i64 y4] 27) = wa at *
  obtain ⟨rb, hrb⟩ : ∃ rb, w.heap.size = rb := ⟨_, rfl⟩
  rw [hrb] at HXR r0 r1 r2 r3 r4
  refine (HAW.out wa).mono ?_
  rintro e wb ⟨rfl, hbb⟩
  have HBB := Lib.hid (Below.then HBR.out hbb (Nat.le_refl _))
  have HXB := Lib.hid (HXR.out.go hbb)
  have HNL := Lib.hid (newL_is cap wb s0 (by omega))
  clear hbb HBR HXR r0 r1 r2 r3 r4
  rw [hrb]
  go_wp2_with fail
  rw [hcap]
  refine HNL.out.mono ?_
  rintro e wc ⟨rfl, hwc⟩
  have hbz : w.heap.size ≤ wb.heap.size := HBB.out.size
  have hzc : wc.heap.size = wb.heap.size + 1 := by rw [hwc]; simp
  have HLC : Hid (∀ c : Nat → Nat, c wb.heap.size = 1 → Lgl wc c 1 wb.heap.size cap [] []) := Lib.hid (fun c hc => by rw [hwc]; exact Lgl.made cap wb c 1 hc)
  have HBC : Hid (Below wb.heap.size wb wc) := Lib.hid (by rw [hwc]; exact (Below.refl _ _).alloc (Nat.le_refl _) _)
  clear hwc HNL
  have HMD : Hid (∀ c : Nat → Nat, c wc.heap.size = 2 → Mgb (wc.alloc (.cells #[.int .i64 cap, .slice none 0 0, .slice none 0 0] 38)) c 2 wc.heap.size cap [] []) := Lib.hid (fun c hc => Mgb.made cap wc c 2 hc)
  have HBD : Hid (Below wc.heap.size wc (wc.alloc (.cells #[.int .i64 cap, .slice none 0 0, .slice none 0 0] 38))) := Lib.hid ((Below.refl _ _).alloc (Nat.le_refl _) _)
  have HBE : Hid (Below wb.heap.size wb (wc.alloc (.cells #[.int .i64 cap, .slice none 0 0, .slice none 0 0] 38))) := Lib.hid (Below.then HBC.out HBD.out (Nat.le_refl _))
  have HOC := Lib.hid (HOF.out (wc.alloc (.cells #[.int .i64 cap, .slice none 0 0, .slice none 0 0] 38)) (HBB.out.trans (HBE.out.mono HBB.out.size)))
  have hzd : (wc.alloc (.cells #[.int .i64 cap, .slice none 0 0, .slice none 0 0] 38)).heap.size = wb.heap.size + 2 := by simp [hzc]
  go_wp2_with fail
  rw [hcap]
  generalize wc.alloc (.cells #[.int .i64 cap, .slice none 0 0, .slice none 0 0] 38) = wd at *
  refine HOC.out.mono ?_
  rintro e we ⟨tb, rfl, hts, htb, hbe⟩
  have HST : Hid (∃ L M j eb x, PlE w rb tb wb.heap.size wc.heap.size cap T ⟨y0, y1, y2, y3, y4⟩ L M L M j eb x we ∧ L.length ≤ 0 ∧ M.length ≤ 0 ∧ Goods L ∧ j ≤ 20 * 0) := Lib.hid (by
    have hcc : Below wc.heap.size wc we := Below.then HBD.out hbe (Nat.le_refl _)
    have hbbe : Below wb.heap.size wb we := Below.then HBE.out hbe (Nat.le_refl _)
    have hxe := HXB.out.go hbbe
    have hrl := HXB.out.lt
    refine ⟨[], [], 0, rb, ⟨y0, y1, y2, y3, y4⟩, ⟨cpm wb.heap.size wc.heap.size, ?_⟩, Nat.le_refl _, Nat.le_refl _, Goods.nil, Nat.zero_le _⟩
    exact ⟨fun g hg => cpm_0 (by omega) (by omega), HBB.out.trans (hbbe.mono hbz), (HLC.out _ (cpm_p _ _)).kept (j := 3) (Kept.ofBelow hcc) (by omega) (fun _ _ => rfl),
      (HMD.out _ (cpm_m (by omega))).kept (j := 3) (Kept.ofBelow hbe) (by omega) (fun _ _ => rfl), hts, cpm_0 (by omega) (by omega), by omega, hxe, cpm_0 (by omega) (by omega), hxe, cpm_0 (by omega) (by omega), by omega, fun g _ e => cpm_1 e, fun g _ e => cpm_2 e⟩)
  rw [hzc] at HST
  clear HOC hts htb hbe HXB HBB HLC HBC HMD HBD HBE HOF HRW hzd hzc hbz
  generalize wb.heap.size = p at *
  go_wp2
  go_loopw [15] (fun iv wr => ∃ i : Nat, i ≤ 20 ∧ iv = .int .i64 i ∧ Hid (∃ L M j eb x, PlE w rb tb p (p + 1) cap T ⟨y0, y1, y2, y3, y4⟩ L M L M j eb x wr ∧ L.length ≤ i ∧ M.length ≤ i ∧ Goods L ∧ j ≤ 20 * i)) (fun iv _ => 20 - (intOf iv).toNat)
  case atStart => exact ⟨0, Nat.zero_le _, rfl, HST⟩
  case round =>
    obtain ⟨i, hi, rfl, hh⟩ := hrel
    clear HST
    obtain ⟨L, M, j, eb0, x0, hP, hLl, hMl, hG, hj⟩ := hh.out
    by_cases hin : i < 20
    · have hi1 : (i : Int) < 20 := by omega
      have HEV := Lib.hid (PlE.event hP HFT.out (by omega))
      have HG := Lib.hid hG
      clear hh hP hG
      go_wp2_with fail
      refine HEV.out.mono ?_
      rintro e w5 ⟨⟨zp, zo, zh, za, ze⟩, j', rfl, hw5, hj', hP5⟩
      have hjn : j' ≤ 20 * (i + 1) := by omega
      have hrl := hP5.ev.2.lt
      have HP5 := Lib.hid hP5
      have HW5 := Lib.hid hw5
      clear HEV hP5 hw5
      by_cases h7 : i = 7
      · have HP6 := Lib.hid (PlE.put HP5.out ⟨y0, y1, y2, y3, y4⟩)
        simp only at HP6
        have HWX := HWR
        obtain ⟨e6, f6⟩ := (PlE.put HP5.out ⟨zp, zo, zh, za, ze⟩).ev
        simp only at e6 f6
        obtain ⟨k0, k1, k2, k3, k4⟩ := e6.cells
        obtain ⟨q0, q1, q2, q3, q4⟩ := f6.cells
        have fr0 := e6.fr 0
        have fr1 := e6.fr 1
        have fr2 := e6.fr 2
        have fr3 := e6.fr 3
        have fr4 := e6.fr 4
        clear e6 f6 hrl
        subst h7
        go_wp2
        clear k0 k1 k2 k3 k4 q0 q1 q2 q3 q4 fr0 fr1 fr2 fr3 fr4 HP5 HW5
        have HEX : Hid (∃ E LL, apE cap L ⟨y0, y1, y2, y3, y4⟩ = E ∧ apL cap L ⟨y0, y1, y2, y3, y4⟩ = LL ∧ Goods LL ∧ LL.length ≤ 7 + 1) := Lib.hid ⟨_, _, rfl, rfl, apL_good HG.out HWX.out, Nat.le_trans (apL_len _ _ _) (by omega)⟩
        obtain ⟨E, LL, hE, hLL, hGL, hLn⟩ := HEX.out
        have HGL := Lib.hid hGL
        generalize w5.alloc (.cells #[.int .i64 y0, .int .i64 y1, .int .u64 y2, .int .u64 y3, .int .i64 y4] 27) = w6 at *
        generalize w5.heap.size = eb at *
        have HD6 := Lib.hid (below_drewN (Below.refl w6.heap.size w6) 1)
        have HP0 := Lib.hid (PlE.go HP6.out HD6.out)
        have HS0 : Hid (EvB w6.drew eb y0 y1 y2 y3 y4) := Lib.hid HP0.out.ev.1
        have HPA := Lib.hid (PlE.append HP0.out ⟨y0, y1, y2, y3, y4⟩ (by omega) HWX.out)
        rw [hE, hLL] at HPA
        clear HEX hGL HP6 HD6
        refine wp_region_hand 7 (fun W => EvB W eb y0 y1 y2 y3 y4) (by kernel_rfl) (by kernel_rfl) ?_
        rw [show Array.replicate 7 false = #[false, false, false, false, false, false, false] from rfl]
        have hHeld := HS0.out
        refine held_take (i := 0) (d := 44) (v := .pointer (some ⟨p, 0, none⟩)) rfl rfl (by kernel_rfl) (by kernel_rfl) (by kernel_rfl) (fun _ _ _ h => h) (by rfl) (fun W _ => run_move_is (.tmp 11) rfl rfl W) hHeld ?_
        simp only [Act.put, List.setIfInBounds_toArray, List.set_cons_zero, List.set_cons_succ]
        refine held_take (i := 1) (d := 45) (v := .agg #[.int .i64 y0, .int .i64 y1, .int .u64 y2, .int .u64 y3, .int .i64 y4]) rfl rfl (by kernel_rfl) (by kernel_rfl) (by kernel_rfl) (fun _ _ _ h => h) (by rfl) (fun W hW => by obtain ⟨q0, q1, q2, q3, q4⟩ := EvB.cells hW; go_simp) hHeld ?_
        simp only [Act.put, List.setIfInBounds_toArray, List.set_cons_zero, List.set_cons_succ]
        refine held_take (i := 3) (d := 47) (v := .pointer (some ⟨p + 1, 0, none⟩)) rfl rfl (by kernel_rfl) (by kernel_rfl) (by kernel_rfl) (fun _ _ _ h => h) (by rfl) (fun W _ => run_move_is (.tmp 13) rfl rfl W) hHeld ?_
        simp only [Act.put, List.setIfInBounds_toArray, List.set_cons_zero, List.set_cons_succ]
        refine held_take (i := 4) (d := 48) (v := .agg #[.int .i64 y0, .int .i64 y1, .int .u64 y2, .int .u64 y3, .int .i64 y4]) rfl rfl (by kernel_rfl) (by kernel_rfl) (by kernel_rfl) (fun _ _ _ h => h) (by rfl) (fun W hW => by obtain ⟨q0, q1, q2, q3, q4⟩ := EvB.cells hW; go_simp) hHeld ?_
        simp only [Act.put, List.setIfInBounds_toArray, List.set_cons_zero, List.set_cons_succ]
        have HCL := Lib.hid (HPA.out)
        refine held_one (i := 2) (by kernel_rfl) ?_
        refine held_callX (d := 46) rfl rfl (by rfl) rfl (by kernel_rfl) Try.func15 (by kernel_rfl) HCL.out ?_
        rintro e w7 ⟨rfl, hp7⟩
        have HP7 := Lib.hid hp7
        have HPM := Lib.hid (PlE.appendM hp7 ⟨y0, y1, y2, y3, y4⟩ (by omega))
        rw [hE, hLL] at HPM
        have HS7 : Hid (EvB w7 eb y0 y1 y2 y3 y4) := Lib.hid hp7.ev.1
        clear hp7
        refine ⟨_, rfl, ?_⟩
        clear HCL hHeld
        have hHeld := HS7.out
        refine ⟨hHeld, ?_⟩
        simp only [Act.put, List.setIfInBounds_toArray, List.set_cons_zero, List.set_cons_succ]
        have HCL := Lib.hid (HPM.out)
        refine held_one (i := 5) (by kernel_rfl) ?_
        refine held_callX (d := 49) rfl rfl (by rfl) rfl (by kernel_rfl) Try.func16 (by kernel_rfl) HCL.out ?_
        rintro e w8 ⟨rfl, hp8⟩
        have HP8 := Lib.hid hp8
        have HS8 : Hid (EvB w8 eb y0 y1 y2 y3 y4) := Lib.hid hp8.ev.1
        clear hp8 HP7 HPM HS7
        refine ⟨_, rfl, ?_⟩
        clear HCL hHeld
        have hHeld := HS8.out
        refine ⟨hHeld, ?_⟩
        simp only [Act.put, List.setIfInBounds_toArray, List.set_cons_zero, List.set_cons_succ]
        refine held_take (i := 6) (d := 50) (v := .bool false) rfl rfl (by kernel_rfl) (by kernel_rfl) (by kernel_rfl) (fun _ _ _ h => h) (by rfl) (fun W _ => by go_simp) hHeld ?_
        simp only [Act.put, List.setIfInBounds_toArray, List.set_cons_zero, List.set_cons_succ]
        refine wpAnyH_done (by kernel_rfl) ?_ _
        clear hHeld
        clear HS0 HS8 HPA HP0 hE hLL
        have HRZ : Hid (Ri 3) := Lib.hid (Ri.of (by omega))
        cases hbit : (bits BinOp.and IntKind.u16 (a3 / 128) 1 == 1) with
        | true =>
          have HMS := Lib.hid (PlE.miss HP8.out 3 HRZ.out (by omega))
          go_wp2_with fail
          refine HMS.out.mono ?_
          rintro e w9 ⟨rfl, hp9⟩
          obtain ⟨Aq, nq, cq, A2, n2, c2, hblk, hkq⟩ := hp9.mis
          have HP9 := Lib.hid hp9
          have HKQ := Lib.hid hkq
          have hlq := hkq.len
          have hpl := (Array.getElem?_eq_some_iff.1 hblk).1
          have HBK := Lib.hid hblk
          have s2 : w9.cell? ⟨p + 1, 2, none⟩ = some (.slice Aq nq cq) := by
              have h1 := cell_of_row w9 (p + 1) 2 _ _ _ hblk
              simpa using h1
          have s3 : (w9.alloc (.cells #[] 3)).cell? ⟨p + 1, 2, none⟩ = some (.slice Aq nq cq) := cell_under s2 _
          clear hp9 hkq hblk HMS HP8
          go_wp2_with (first | (at_builtin; refine wpList_appK _ rfl (.tmp 63) (.tmp 67) 36 rfl Try.underlying36 hi0 hz0 rfl hz1 (by omega) (OwnK.made0 int1 3 w9) rfl (HKQ.out.alloc (.cells #[] 3)) rfl (by simp; omega) (by simp) ?_; intro v10 w10 ho10 hb10 hg10; obtain ⟨A10, n10, c10, rfl, hx10⟩ := ho10.shape; have HO10 := Lib.hid ho10; have HB10 : Hid (Below w9.heap.size w9 w10) := Lib.hid (((Below.refl _ _).alloc (Nat.le_refl _) (.cells #[] 3)).trans hb10); have HN10 := Lib.hid (Kws.new (E := int1) w10 [3] #[.int .i64 3] 3 1 rfl rfl (by unfold maxLen; omega)); clear ho10 hb10 hg10 hx10) | (at_builtin; refine wpList_appK _ rfl (.tmp 68) (.tmp 71) 36 rfl Try.underlying36 hi0 hz0 rfl hz1 (by omega) (HO10.out.alloc _) rfl HN10.out rfl (by simp; omega) (by have := HB10.out.size; simp; omega) ?_; intro v11 w11 ho11 hb11 hg11; obtain ⟨A11, n11, c11, rfl, hx11⟩ := ho11.shape; have HO11 := Lib.hid ho11; have hb19 : Below w9.heap.size w9 w11 := (HB10.out.alloc HB10.out.size _).trans hb11; have HB11 := Lib.hid hb19; have hbk := (hb19.block (p + 1) hpl).trans HBK.out; have s4 := cell_of_row w11 (p + 1) 2 _ _ _ hbk; simp only [List.getElem?_toArray, List.getElem?_cons_zero, List.getElem?_cons_succ] at s4; have f4 := frozen_of_row w11 (p + 1) 2 _ _ hbk; clear ho11 hb11 hg11 hx11 hb19 hbk) | fail)
          have HPX := Lib.hid (PlE.missM HP9.out HB11.out (by simpa using HO11.out))
          clear HO11 HB11 HO10 HB10 HN10 HKQ HBK HP9 s2 s3 s4 f4
          generalize w11.setCell ⟨p + 1, 2, none⟩ (.slice A11 n11 c11) = wx at *
          have HAL := Lib.hid (PlE.alike HPX.out 3 HRZ.out (by omega) (by simp; omega))
          go_wp2_with fail
          refine HAL.out.mono ?_
          rintro e wy ⟨rfl, hby⟩
          have hPy := PlE.go HPX.out hby
          have HF : Hid (∃ L M j eb x, PlE w rb tb p (p + 1) cap T ⟨y0, y1, y2, y3, y4⟩ L M L M j eb x wy ∧ L.length ≤ 7 + 1 ∧ M.length ≤ 7 + 1 ∧ Goods L ∧ j ≤ 20 * (7 + 1)) := Lib.hid ⟨LL, (M ++ [3]), _, _, _, hPy, hLn, (by simp; omega), HGL.out, hjn⟩
          clear hPy hby HAL HPX
          go_wp2
          go_roundw
          case rel => exact ⟨7 + 1, by omega, by go_num, HF⟩
          case measure => simp [intOf]
        | false =>
          have HAL := Lib.hid (PlE.alike HP8.out 3 HRZ.out (by omega) (by omega))
          go_wp2_with fail
          refine HAL.out.mono ?_
          rintro e wy ⟨rfl, hby⟩
          have hPy := PlE.go HP8.out hby
          have HF : Hid (∃ L M j eb x, PlE w rb tb p (p + 1) cap T ⟨y0, y1, y2, y3, y4⟩ L M L M j eb x wy ∧ L.length ≤ 7 + 1 ∧ M.length ≤ 7 + 1 ∧ Goods L ∧ j ≤ 20 * (7 + 1)) := Lib.hid ⟨LL, M, _, _, _, hPy, hLn, (by omega), HGL.out, hjn⟩
          clear hPy hby HAL HP8
          go_wp2
          go_roundw
          case rel => exact ⟨7 + 1, by omega, by go_num, HF⟩
          case measure => simp [intOf]
      · have h7b : ((i : Int) == 7) = false := by simp; omega
        have HP6 := Lib.hid (PlE.put HP5.out ⟨zp, zo, zh, za, ze⟩)
        simp only at HP6
        have HWX := HW5
        clear hrl HP5 HW5 h7
        go_wp2
        have HEX : Hid (∃ E LL, apE cap L ⟨zp, zo, zh, za, ze⟩ = E ∧ apL cap L ⟨zp, zo, zh, za, ze⟩ = LL ∧ Goods LL ∧ LL.length ≤ i + 1) := Lib.hid ⟨_, _, rfl, rfl, apL_good HG.out HWX.out, Nat.le_trans (apL_len _ _ _) (by omega)⟩
        obtain ⟨E, LL, hE, hLL, hGL, hLn⟩ := HEX.out
        have HGL := Lib.hid hGL
        generalize w5.alloc (.cells #[.int .i64 zp, .int .i64 zo, .int .u64 zh, .int .u64 za, .int .i64 ze] 27) = w6 at *
        generalize w5.heap.size = eb at *
        have HD6 := Lib.hid (below_drewN (Below.refl w6.heap.size w6) 1)
        have HP0 := Lib.hid (PlE.go HP6.out HD6.out)
        have HS0 : Hid (EvB w6.drew eb zp zo zh za ze) := Lib.hid HP0.out.ev.1
        have HPA := Lib.hid (PlE.append HP0.out ⟨zp, zo, zh, za, ze⟩ (by omega) HWX.out)
        rw [hE, hLL] at HPA
        clear HEX hGL HP6 HD6
        refine wp_region_hand 7 (fun W => EvB W eb zp zo zh za ze) (by kernel_rfl) (by kernel_rfl) ?_
        rw [show Array.replicate 7 false = #[false, false, false, false, false, false, false] from rfl]
        have hHeld := HS0.out
        refine held_take (i := 0) (d := 44) (v := .pointer (some ⟨p, 0, none⟩)) rfl rfl (by kernel_rfl) (by kernel_rfl) (by kernel_rfl) (fun _ _ _ h => h) (by rfl) (fun W _ => run_move_is (.tmp 11) rfl rfl W) hHeld ?_
        simp only [Act.put, List.setIfInBounds_toArray, List.set_cons_zero, List.set_cons_succ]
        refine held_take (i := 1) (d := 45) (v := .agg #[.int .i64 zp, .int .i64 zo, .int .u64 zh, .int .u64 za, .int .i64 ze]) rfl rfl (by kernel_rfl) (by kernel_rfl) (by kernel_rfl) (fun _ _ _ h => h) (by rfl) (fun W hW => by obtain ⟨q0, q1, q2, q3, q4⟩ := EvB.cells hW; go_simp) hHeld ?_
        simp only [Act.put, List.setIfInBounds_toArray, List.set_cons_zero, List.set_cons_succ]
        refine held_take (i := 3) (d := 47) (v := .pointer (some ⟨p + 1, 0, none⟩)) rfl rfl (by kernel_rfl) (by kernel_rfl) (by kernel_rfl) (fun _ _ _ h => h) (by rfl) (fun W _ => run_move_is (.tmp 13) rfl rfl W) hHeld ?_
        simp only [Act.put, List.setIfInBounds_toArray, List.set_cons_zero, List.set_cons_succ]
        refine held_take (i := 4) (d := 48) (v := .agg #[.int .i64 zp, .int .i64 zo, .int .u64 zh, .int .u64 za, .int .i64 ze]) rfl rfl (by kernel_rfl) (by kernel_rfl) (by kernel_rfl) (fun _ _ _ h => h) (by rfl) (fun W hW => by obtain ⟨q0, q1, q2, q3, q4⟩ := EvB.cells hW; go_simp) hHeld ?_
        simp only [Act.put, List.setIfInBounds_toArray, List.set_cons_zero, List.set_cons_succ]
        have HCL := Lib.hid (HPA.out)
        refine held_one (i := 2) (by kernel_rfl) ?_
        refine held_callX (d := 46) rfl rfl (by rfl) rfl (by kernel_rfl) Try.func15 (by kernel_rfl) HCL.out ?_
        rintro e w7 ⟨rfl, hp7⟩
        have HP7 := Lib.hid hp7
        have HPM := Lib.hid (PlE.appendM hp7 ⟨zp, zo, zh, za, ze⟩ (by omega))
        rw [hE, hLL] at HPM
        have HS7 : Hid (EvB w7 eb zp zo zh za ze) := Lib.hid hp7.ev.1
        clear hp7
        refine ⟨_, rfl, ?_⟩
        clear HCL hHeld
        have hHeld := HS7.out
        refine ⟨hHeld, ?_⟩
        simp only [Act.put, List.setIfInBounds_toArray, List.set_cons_zero, List.set_cons_succ]
        have HCL := Lib.hid (HPM.out)
        refine held_one (i := 5) (by kernel_rfl) ?_
        refine held_callX (d := 49) rfl rfl (by rfl) rfl (by kernel_rfl) Try.func16 (by kernel_rfl) HCL.out ?_
        rintro e w8 ⟨rfl, hp8⟩
        have HP8 := Lib.hid hp8
        have HS8 : Hid (EvB w8 eb zp zo zh za ze) := Lib.hid hp8.ev.1
        clear hp8 HP7 HPM HS7
        refine ⟨_, rfl, ?_⟩
        clear HCL hHeld
        have hHeld := HS8.out
        refine ⟨hHeld, ?_⟩
        simp only [Act.put, List.setIfInBounds_toArray, List.set_cons_zero, List.set_cons_succ]
        refine held_take (i := 6) (d := 50) (v := .bool false) rfl rfl (by kernel_rfl) (by kernel_rfl) (by kernel_rfl) (fun _ _ _ h => h) (by rfl) (fun W _ => by go_simp) hHeld ?_
        simp only [Act.put, List.setIfInBounds_toArray, List.set_cons_zero, List.set_cons_succ]
        refine wpAnyH_done (by kernel_rfl) ?_ _
        clear hHeld
        clear HS0 HS8 HPA HP0 hE hLL
        have HRZ : Hid (Ri ((i : Int) % 4)) := Lib.hid (Ri.of (by omega))
        cases hbit : (bits BinOp.and IntKind.u16 (a3 / 2 ^ (i % 16)) 1 == 1) with
        | true =>
          have HMS := Lib.hid (PlE.miss HP8.out ((i : Int) % 4) HRZ.out (by omega))
          go_wp2_with fail
          refine HMS.out.mono ?_
          rintro e w9 ⟨rfl, hp9⟩
          obtain ⟨Aq, nq, cq, A2, n2, c2, hblk, hkq⟩ := hp9.mis
          have HP9 := Lib.hid hp9
          have HKQ := Lib.hid hkq
          have hlq := hkq.len
          have hpl := (Array.getElem?_eq_some_iff.1 hblk).1
          have HBK := Lib.hid hblk
          have s2 : w9.cell? ⟨p + 1, 2, none⟩ = some (.slice Aq nq cq) := by
              have h1 := cell_of_row w9 (p + 1) 2 _ _ _ hblk
              simpa using h1
          have s3 : (w9.alloc (.cells #[] 3)).cell? ⟨p + 1, 2, none⟩ = some (.slice Aq nq cq) := cell_under s2 _
          clear hp9 hkq hblk HMS HP8
          go_wp2_with (first | (at_builtin; refine wpList_appK _ rfl (.tmp 63) (.tmp 67) 36 rfl Try.underlying36 hi0 hz0 rfl hz1 (by omega) (OwnK.made0 int1 3 w9) rfl (HKQ.out.alloc (.cells #[] 3)) rfl (by simp; omega) (by simp) ?_; intro v10 w10 ho10 hb10 hg10; obtain ⟨A10, n10, c10, rfl, hx10⟩ := ho10.shape; have HO10 := Lib.hid ho10; have HB10 : Hid (Below w9.heap.size w9 w10) := Lib.hid (((Below.refl _ _).alloc (Nat.le_refl _) (.cells #[] 3)).trans hb10); have HN10 := Lib.hid (Kws.new (E := int1) w10 [((i : Int) % 4)] #[.int .i64 ((i : Int) % 4)] 3 1 rfl rfl (by unfold maxLen; omega)); clear ho10 hb10 hg10 hx10) | (at_builtin; refine wpList_appK _ rfl (.tmp 68) (.tmp 71) 36 rfl Try.underlying36 hi0 hz0 rfl hz1 (by omega) (HO10.out.alloc _) rfl HN10.out rfl (by simp; omega) (by have := HB10.out.size; simp; omega) ?_; intro v11 w11 ho11 hb11 hg11; obtain ⟨A11, n11, c11, rfl, hx11⟩ := ho11.shape; have HO11 := Lib.hid ho11; have hb19 : Below w9.heap.size w9 w11 := (HB10.out.alloc HB10.out.size _).trans hb11; have HB11 := Lib.hid hb19; have hbk := (hb19.block (p + 1) hpl).trans HBK.out; have s4 := cell_of_row w11 (p + 1) 2 _ _ _ hbk; simp only [List.getElem?_toArray, List.getElem?_cons_zero, List.getElem?_cons_succ] at s4; have f4 := frozen_of_row w11 (p + 1) 2 _ _ hbk; clear ho11 hb11 hg11 hx11 hb19 hbk) | fail)
          have HPX := Lib.hid (PlE.missM HP9.out HB11.out (by simpa using HO11.out))
          clear HO11 HB11 HO10 HB10 HN10 HKQ HBK HP9 s2 s3 s4 f4
          generalize w11.setCell ⟨p + 1, 2, none⟩ (.slice A11 n11 c11) = wx at *
          have HAL := Lib.hid (PlE.alike HPX.out ((i : Int) % 4) HRZ.out (by omega) (by simp; omega))
          go_wp2_with fail
          refine HAL.out.mono ?_
          rintro e wy ⟨rfl, hby⟩
          have hPy := PlE.go HPX.out hby
          have HF : Hid (∃ L M j eb x, PlE w rb tb p (p + 1) cap T ⟨y0, y1, y2, y3, y4⟩ L M L M j eb x wy ∧ L.length ≤ i + 1 ∧ M.length ≤ i + 1 ∧ Goods L ∧ j ≤ 20 * (i + 1)) := Lib.hid ⟨LL, (M ++ [((i : Int) % 4)]), _, _, _, hPy, hLn, (by simp; omega), HGL.out, hjn⟩
          clear hPy hby HAL HPX
          go_wp2
          go_roundw
          case rel => exact ⟨i + 1, by omega, by go_num, HF⟩
          case measure => simp [intOf]; omega
        | false =>
          have HAL := Lib.hid (PlE.alike HP8.out ((i : Int) % 4) HRZ.out (by omega) (by omega))
          go_wp2_with fail
          refine HAL.out.mono ?_
          rintro e wy ⟨rfl, hby⟩
          have hPy := PlE.go HP8.out hby
          have HF : Hid (∃ L M j eb x, PlE w rb tb p (p + 1) cap T ⟨y0, y1, y2, y3, y4⟩ L M L M j eb x wy ∧ L.length ≤ i + 1 ∧ M.length ≤ i + 1 ∧ Goods L ∧ j ≤ 20 * (i + 1)) := Lib.hid ⟨LL, M, _, _, _, hPy, hLn, (by omega), HGL.out, hjn⟩
          clear hPy hby HAL HP8
          go_wp2
          go_roundw
          case rel => exact ⟨i + 1, by omega, by go_num, HF⟩
          case measure => simp [intOf]; omega
    · obtain rfl : i = 20 := by omega
      have hd : ¬ (20 : Int) < 20 := by omega
      have HP := Lib.hid hP
      clear hP hG hh
      go_wp2_with fail
      refine (HAW.out wr).mono ?_
      rintro e wy ⟨rfl, hby⟩
      have HPY := Lib.hid (PlE.go HP.out hby)
      have HAL := Lib.hid (PlE.alike HPY.out a4 HR4.out (by omega) (by omega))
      clear hby HP
      go_wp2_with fail
      refine HAL.out.mono ?_
      rintro e wu ⟨rfl, hbu⟩
      have HB := Lib.hid (PlE.bel (PlE.go HPY.out hbu))
      clear hbu HPY HAL
      go_wp2
      go_ret
      exact ⟨rfl, HB.out⟩
end Go.Proofs.Ytlgoiccekgjhnaa
