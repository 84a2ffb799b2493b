/-
  The law AuditNone as a walk. Conditions: none.
-/
import Derived.Test.YtlgoiccekgjhnaaLpl
namespace Go.Proofs.Ytlgoiccekgjhnaa
open Go.ChangeShapes Go.WideShapes Go.ChangeAt Go.RowKit
set_option linter.unusedVariables false
set_option linter.unusedSimpArgs false
set_option maxHeartbeats 8000000
set_option maxRecDepth 100000

/-- Two blocks have colours. -/
def cpm (p m : Nat) : Nat → Nat := fun g => if g = p then 1 else if g = m then 2 else 0
theorem cpm_p (p m : Nat) : cpm p m p = 1 := if_pos rfl
theorem cpm_m {p m : Nat} (h : m ≠ p) : cpm p m m = 2 := by unfold cpm; rw [if_neg h, if_pos rfl]
theorem cpm_0 {p m g : Nat} (h : g ≠ p) (h' : g ≠ m) : cpm p m g = 0 := by unfold cpm; rw [if_neg h, if_neg h']
theorem cpm_1 {p m g : Nat} (h : cpm p m g = 1) : g = p := by
  unfold cpm at h
  split at h
  · assumption
  · split at h <;> omega
theorem cpm_2 {p m g : Nat} (h : cpm p m g = 2) : g = m := by
  unfold cpm at h
  split at h
  · omega
  · split at h
    · assumption
    · omega
theorem PlE.alike {w0 W : World} {rb tb p m j eb : Nat} {cap : Int} {T : List Int} {y x : Ev5} {L : List Ev5} {M : List Int} (H : PlE w0 rb tb p m cap T y L M L M j eb x W) (z : Int) (hz : Ri z) (hl : L.length ≤ 1000) (hm : M.length ≤ 1000) :
    Calls Try.prog 18 #[.pointer (some ⟨p, 0, none⟩), .pointer (some ⟨m, 0, none⟩), .int .i64 z] W fun e W' => e = .returned (.bool true) ∧ Below W.heap.size W W' := by
  obtain ⟨c, h⟩ := H
  have hg := h.lg.1
  obtain ⟨last, h1, h2⟩ := h.lg.r
  exact alike17_any h2 h1 h.mg.r hg hl hm hz rfl rfl
theorem PlE.ev {w0 W : World} {rb tb p m j eb : Nat} {cap : Int} {T : List Int} {y x : Ev5} {L1 L2 : List Ev5} {M1 M2 : List Int} (H : PlE w0 rb tb p m cap T y L1 M1 L2 M2 j eb x W) : EvB W eb x.p x.o x.h x.a x.e ∧ EvB W rb y.p y.o y.h y.a y.e := by
  obtain ⟨c, h⟩ := H
  exact ⟨h.ev, h.box⟩
theorem missN_any (z : Int) (w : World) : Calls Try.prog 17 #[.pointer none, .int .i64 z] w fun e w' => e = .returned (.tuple #[]) ∧ w' = w := by
  go_enter Try.func17, Try.ntmps17
  go_wp2
  go_end0
  exact ⟨rfl, rfl⟩
theorem appendN_any (p o h a e : Int) (w : World) : Calls Try.prog 15 #[.pointer none, .agg #[.int .i64 p, .int .i64 o, .int .u64 h, .int .u64 a, .int .i64 e]] w (Says w (.int .i64 1)) := by
  have HB := Lib.hid ((Below.refl w.heap.size w).alloc (Nat.le_refl _) (.cells #[.int .i64 p, .int .i64 o, .int .u64 h, .int .u64 a, .int .i64 e] 27))
  go_enter Try.func15, Try.ntmps15
  go_wp2
  go_ret
  exact Says.of HB.out
theorem auditNone_walk (a0 a1 : Int) (a2 : Option Addr) (len2 cap2 : Nat) (z2 : List Int) (a3 : Int) (w : World) (w0 : (Lit.int .i64 a0).wf = true) (w1 : (Lit.int .u8 a1).wf = true) (w2 : IsRow .u16 w a2 len2 cap2 z2) (w3 : (Lit.int .i64 a3).wf = true) :
    Calls Try.prog 4 #[.int .i64 a0, .int .u8 a1, .slice a2 len2 cap2, .int .i64 a3] w fun e w' => e = .returned (.bool true) ∧ Below w.heap.size w w' := by
  obtain ⟨hrow, hfit⟩ := w2.row
  generalize z2.take len2 = T0 at hrow hfit
  have HFT := Lib.hid (hfit.take 12)
  have HOF := Lib.hid (fun W (hb : Below w.heap.size w W) => of_any a2 len2 cap2 T0 12 W ((hrow.below hb).more hb.size) (by omega))
  generalize T0.take 12 = T at *
  obtain ⟨b0, b1⟩ := byte_bd w1
  have b2 := Go.bounds_i64 w0
  have HRZ : Hid (Ri a3) := Lib.hid w3
  have s0 : 0 ≤ a1 % 3 := Int.emod_nonneg _ (by omega)
  have s1 : a1 % 3 < 3 := Int.emod_lt_of_pos _ (by omega)
  obtain ⟨nr, hnr⟩ : ∃ nr, a1 % 3 = nr := ⟨_, rfl⟩
  rw [hnr] at s0 s1
  have e1 : IntKind.i64.wrap (65535 + nr) = 65535 + nr := by rw [IntKind.wrap_i64]; omega
  have HAW := Lib.hid (fun W => aw17_any landed W)
  have HOK := Lib.hid (fun cap W (h0 : 0 ≤ cap) (h1 : cap ≤ 65536) => newL_any cap W (fun _ => 0) 1 h0 h1)
  have HBD := Lib.hid (fun cap W (h0 : cap < 0 ∨ 65536 < cap) => newL_bad cap W h0)
  clear w0 w1 w2 w3 hrow hfit
  go_enter Try.func4, Try.ntmps4
  by_cases hok : 0 ≤ a0 ∧ a0 ≤ 65536
  · obtain ⟨c0, c1⟩ := hok
    have d0 : ¬ a0 < 0 := by omega
    have d1 : ¬ 65536 < a0 := by omega
    go_wp2_with fail
    refine (HOK.out a0 w c0 c1).mono ?_
    rintro e wa ⟨p, rfl, hp, _, hba⟩
    have HBA := Lib.hid hba
    clear hp hba
    by_cases hn : nr < 2
    · have hn1 : ¬ 2 ≤ nr := by omega
      go_wp2_with fail
      rw [hnr]
      refine (HOK.out (65535 + nr) wa (by omega) (by omega)).mono ?_
      rintro e wb ⟨p2, rfl, hp, _, hbb⟩
      have HBB := Lib.hid (Below.then HBA.out hbb (Nat.le_refl _))
      clear hp hbb HBA
      go_wp2_with fail
      have HOC := Lib.hid (HOF.out wb HBB.out)
      clear HOF HOK HBD
      refine HOC.out.mono ?_
      rintro e wc ⟨tb, rfl, hts, htb, hbc⟩
      have HBC := Lib.hid (Below.then HBB.out hbc (Nat.le_refl _))
      have HEV := Lib.hid (event_any tb 0 T wc hts HFT.out (by omega))
      have HTB : Hid (w.heap.size ≤ tb) := Lib.hid (Nat.le_trans HBB.out.size htb)
      unfold EvM at HEV
      clear HOC hts htb hbc HBB
      go_wp2_with fail
      refine HEV.out.mono ?_
      rintro e wd ⟨zp, zo, zh, za, ze, j, _, hwh, hwa, _, rfl, htd, hod⟩
      have HWX : Hid (Word5 ⟨zp, zo, zh, za, ze⟩) := Lib.hid ⟨hwh, hwa⟩
      have HBD : Hid (Below w.heap.size w wd) := Lib.hid (HBC.out.trans (hod.below HTB.out HBC.out.size))
      have hbe : Below wd.heap.size wd (wd.alloc (.cells #[.int .i64 zp, .int .i64 zo, .int .u64 zh, .int .u64 za, .int .i64 ze] 27)) := (Below.refl _ _).alloc (Nat.le_refl _) _
      have HTE := Lib.hid (htd.go hbe)
      have HBE : Hid (Below w.heap.size w (wd.alloc (.cells #[.int .i64 zp, .int .i64 zo, .int .u64 zh, .int .u64 za, .int .i64 ze] 27))) := Lib.hid (Below.then HBD.out hbe (Nat.le_refl _))
      have hxe := EvB.new (w := wd) (p := zp) (o := zo) (h := zh) (a := za) (e := ze)
      have HXE := Lib.hid hxe
      obtain ⟨q0, q1, q2, q3, q4⟩ := hxe.cells
      have HEW : Hid (w.heap.size ≤ wd.heap.size) := Lib.hid HBD.out.size
      have HMI := Lib.hid (missN_any a3 (wd.alloc (.cells #[.int .i64 zp, .int .i64 zo, .int .u64 zh, .int .u64 za, .int .i64 ze] 27)))
      clear hwh hwa htd hod hbe hxe HEV HBC HBD
      go_wp2_with fail
      generalize wd.alloc (.cells #[.int .i64 zp, .int .i64 zo, .int .u64 zh, .int .u64 za, .int .i64 ze] 27) = we at *
      generalize wd.heap.size = eb at *
      refine HMI.out.mono ?_
      rintro e wf ⟨rfl, hwf⟩
      subst hwf
      have HAN := Lib.hid (appendN_any zp zo zh za ze wf)
      clear HMI
      go_wp2_with fail
      refine HAN.out.mono ?_
      rintro e wg ⟨rfl, hbg⟩
      have HBG := Lib.hid (Below.then HBE.out hbg (Nat.le_refl _))
      have HTG := Lib.hid (HTE.out.go hbg)
      have hxg := HXE.out.go hbg
      have HXG := Lib.hid hxg
      have HBM := Lib.hid ((Below.refl wg.heap.size wg).alloc (Nat.le_refl _) (.cells #[.int .i64 0, .slice none 0 0, .slice none 0 0] 38))
      have HAL := Lib.hid (alike17_any (w := wg.alloc (.cells #[.int .i64 0, .slice none 0 0, .slice none 0 0] 38)) (P := none) (cap := 0) (last := 0) (L := []) (M := []) (f := fun _ => 0) (g := fun _ => 0) (m := wg.heap.size) (z := a3) (.inr ⟨rfl, rfl, rfl, fun _ => rfl, fun _ => rfl⟩) (fun h => absurd rfl h) (Mgb.made 0 wg (fun _ => 0) 0 rfl).r Goods.nil (by simp) (by simp) HRZ.out rfl rfl)
      clear q0 q1 q2 q3 q4 HAN HBE HTE HXE hbg hxg
      go_wp2_with fail
      generalize wg.alloc (.cells #[.int .i64 0, .slice none 0 0, .slice none 0 0] 38) = wh at *
      refine HAL.out.mono ?_
      rintro e wi ⟨rfl, hbi⟩
      have hgi := Below.then HBM.out hbi (Nat.le_refl _)
      have HBI := Lib.hid (Below.then HBG.out hgi (Nat.le_refl _))
      have HTI := Lib.hid (HTG.out.go hgi)
      have HXI := Lib.hid (HXG.out.go hgi)
      clear hbi hgi HAL HBM HBG HTG HXG
      have HLG : Hid (∀ c : Nat → Nat, c wi.heap.size = 1 → Lgl (wi.alloc (.cells #[.int .i64 0, .slice none 0 0, .int .u64 0, .map none, .map none] 50)) c 1 wi.heap.size 0 [] []) := Lib.hid (fun c hc => Lgl.made 0 wi c 1 hc)
      have hsz : (wi.alloc (.cells #[.int .i64 0, .slice none 0 0, .int .u64 0, .map none, .map none] 50)).heap.size = wi.heap.size + 1 := by simp
      have HMG : Hid (∀ c : Nat → Nat, c (wi.alloc (.cells #[.int .i64 0, .slice none 0 0, .int .u64 0, .map none, .map none] 50)).heap.size = 2 → Mgb ((wi.alloc (.cells #[.int .i64 0, .slice none 0 0, .int .u64 0, .map none, .map none] 50)).alloc (.cells #[.int .i64 0, .slice none 0 0, .slice none 0 0] 38)) c 2 (wi.alloc (.cells #[.int .i64 0, .slice none 0 0, .int .u64 0, .map none, .map none] 50)).heap.size 0 [] []) := Lib.hid (fun c hc => Mgb.made 0 (wi.alloc (.cells #[.int .i64 0, .slice none 0 0, .int .u64 0, .map none, .map none] 50)) c 2 hc)
      rw [hsz] at HMG
      have HPP : Hid (PlE w eb tb wi.heap.size (wi.heap.size + 1) 0 T ⟨zp, zo, zh, za, ze⟩ [] [] [] [] j eb ⟨zp, zo, zh, za, ze⟩ ((wi.alloc (.cells #[.int .i64 0, .slice none 0 0, .int .u64 0, .map none, .map none] 50)).alloc (.cells #[.int .i64 0, .slice none 0 0, .slice none 0 0] 38))) := Lib.hid (by
        have hb1 : Below wi.heap.size wi (wi.alloc (.cells #[.int .i64 0, .slice none 0 0, .int .u64 0, .map none, .map none] 50)) := (Below.refl _ _).alloc (Nat.le_refl _) _
        have hb2 : Below (wi.alloc (.cells #[.int .i64 0, .slice none 0 0, .int .u64 0, .map none, .map none] 50)).heap.size (wi.alloc (.cells #[.int .i64 0, .slice none 0 0, .int .u64 0, .map none, .map none] 50)) ((wi.alloc (.cells #[.int .i64 0, .slice none 0 0, .int .u64 0, .map none, .map none] 50)).alloc (.cells #[.int .i64 0, .slice none 0 0, .slice none 0 0] 38)) := (Below.refl _ _).alloc (Nat.le_refl _) _
        have hb3 := Below.then hb1 hb2 (Nat.le_refl _)
        have h1 := HXI.out.lt
        have h2 := HTI.out.lt
        have h3 := HBI.out.size
        have h4 := HTB.out
        have h5 := HEW.out
        exact ⟨cpm wi.heap.size (wi.heap.size + 1), fun g hg => cpm_0 (by omega) (by omega), Below.then HBI.out hb3 (Nat.le_refl _), (HLG.out _ (cpm_p _ _)).kept (j := 3) (Kept.ofBelow hb2) (by omega) (fun _ _ => rfl), HMG.out _ (cpm_m (by omega)), HTI.out.go hb3, cpm_0 (by omega) (by omega), h4,
          HXI.out.go hb3, cpm_0 (by omega) (by omega), HXI.out.go hb3, cpm_0 (by omega) (by omega), h5, fun g _ e => cpm_1 e, fun g _ e => cpm_2 e⟩)
      clear HLG HMG HTI HXI HBI
      go_wp2
      generalize (wi.alloc (.cells #[.int .i64 0, .slice none 0 0, .int .u64 0, .map none, .map none] 50)).alloc (.cells #[.int .i64 0, .slice none 0 0, .slice none 0 0] 38) = wk at *
      generalize wi.heap.size = p at *
      have HD0 := Lib.hid (below_drewN (Below.refl wk.heap.size wk) 1)
      have HP0 := Lib.hid (PlE.go HPP.out HD0.out)
      have HS0 : Hid (EvB wk.drew eb zp zo zh za ze) := Lib.hid HP0.out.ev.1
      obtain ⟨E, hE⟩ : ∃ E, apE 0 [] ⟨zp, zo, zh, za, ze⟩ = E := ⟨_, rfl⟩
      obtain ⟨LL, hLL⟩ : ∃ LL, apL 0 [] ⟨zp, zo, zh, za, ze⟩ = LL := ⟨_, rfl⟩
      have hLn : LL.length ≤ 1 := by
        rw [← hLL]
        unfold apL
        split <;> simp
      refine wp_region_hand 17 (fun W => EvB W eb zp zo zh za ze) (by kernel_rfl) (by kernel_rfl) ?_
      rw [show Array.replicate 17 false = #[false, false, false, false, false, false, false, false, false, false, false, false, false, false, false, false, false] from rfl]
      have hHeld := HS0.out
      have HCL := Lib.hid (HAW.out wk.drew)
      refine held_one (i := 0) (by kernel_rfl) ?_
      refine held_callX (d := 85) rfl rfl (by rfl) rfl (by kernel_rfl) Try.func11 (by kernel_rfl) HCL.out ?_
      rintro e x1 ⟨rfl, hx1⟩
      have HP1 := Lib.hid (PlE.go HP0.out hx1)
      have HPA := Lib.hid (PlE.append HP1.out ⟨zp, zo, zh, za, ze⟩ (by simp) HWX.out)
      rw [hE, hLL] at HPA
      have HS1 : Hid (EvB x1 eb zp zo zh za ze) := Lib.hid HP1.out.ev.1
      clear hx1
      refine ⟨_, rfl, ?_⟩
      clear HCL hHeld
      have hHeld := HS1.out
      refine ⟨hHeld, ?_⟩
      simp only [Act.put, List.setIfInBounds_toArray, List.set_cons_zero, List.set_cons_succ]
      refine held_take (i := 1) (d := 86) (v := .bool true) rfl rfl (by kernel_rfl) (by kernel_rfl) (by kernel_rfl) (fun _ _ _ h => h) (by rfl) (fun W _ => run_move_is (.tmp 85) rfl rfl W) hHeld ?_
      simp only [Act.put, List.setIfInBounds_toArray, List.set_cons_zero, List.set_cons_succ]
      refine held_take (i := 2) (d := 87) (v := .pointer (some ⟨p, 0, none⟩)) rfl rfl (by kernel_rfl) (by kernel_rfl) (by kernel_rfl) (fun _ _ _ h => h) (by rfl) (fun W _ => run_move_is (.tmp 16) rfl rfl W) hHeld ?_
      simp only [Act.put, List.setIfInBounds_toArray, List.set_cons_zero, List.set_cons_succ]
      refine held_take (i := 3) (d := 88) (v := .agg #[.int .i64 zp, .int .i64 zo, .int .u64 zh, .int .u64 za, .int .i64 ze]) rfl rfl (by kernel_rfl) (by kernel_rfl) (by kernel_rfl) (fun _ _ _ h => h) (by rfl) (fun W hW => by obtain ⟨q0, q1, q2, q3, q4⟩ := EvB.cells hW; go_simp) hHeld ?_
      simp only [Act.put, List.setIfInBounds_toArray, List.set_cons_zero, List.set_cons_succ]
      refine held_take (i := 5) (d := 90) (v := .pointer (some ⟨p + 1, 0, none⟩)) rfl rfl (by kernel_rfl) (by kernel_rfl) (by kernel_rfl) (fun _ _ _ h => h) (by rfl) (fun W _ => run_move_is (.tmp 17) rfl rfl W) hHeld ?_
      simp only [Act.put, List.setIfInBounds_toArray, List.set_cons_zero, List.set_cons_succ]
      refine held_take (i := 6) (d := 91) (v := .agg #[.int .i64 zp, .int .i64 zo, .int .u64 zh, .int .u64 za, .int .i64 ze]) rfl rfl (by kernel_rfl) (by kernel_rfl) (by kernel_rfl) (fun _ _ _ h => h) (by rfl) (fun W hW => by obtain ⟨q0, q1, q2, q3, q4⟩ := EvB.cells hW; go_simp) hHeld ?_
      simp only [Act.put, List.setIfInBounds_toArray, List.set_cons_zero, List.set_cons_succ]
      have HCL := Lib.hid (HPA.out)
      refine held_one (i := 4) (by kernel_rfl) ?_
      refine held_callX (d := 89) rfl rfl (by rfl) rfl (by kernel_rfl) Try.func15 (by kernel_rfl) HCL.out ?_
      rintro e x2 ⟨rfl, hp2⟩
      have HPM := Lib.hid (PlE.appendM hp2 ⟨zp, zo, zh, za, ze⟩ (by simp))
      rw [hE, hLL] at HPM
      have HS2 : Hid (EvB x2 eb zp zo zh za ze) := Lib.hid hp2.ev.1
      clear hp2
      refine ⟨_, rfl, ?_⟩
      clear HCL hHeld
      have hHeld := HS2.out
      refine ⟨hHeld, ?_⟩
      simp only [Act.put, List.setIfInBounds_toArray, List.set_cons_zero, List.set_cons_succ]
      have HCL := Lib.hid (HPM.out)
      refine held_one (i := 7) (by kernel_rfl) ?_
      refine held_callX (d := 92) rfl rfl (by rfl) rfl (by kernel_rfl) Try.func16 (by kernel_rfl) HCL.out ?_
      rintro e x3 ⟨rfl, hp3⟩
      have HP3 := Lib.hid hp3
      have HAK := Lib.hid (PlE.alike hp3 a3 HRZ.out (by omega) (by simp))
      have HS3 : Hid (EvB x3 eb zp zo zh za ze) := Lib.hid hp3.ev.1
      clear hp3
      refine ⟨_, rfl, ?_⟩
      clear HCL hHeld
      have hHeld := HS3.out
      refine ⟨hHeld, ?_⟩
      simp only [Act.put, List.setIfInBounds_toArray, List.set_cons_zero, List.set_cons_succ]
      refine held_take (i := 8) (d := 93) (v := .bool true) rfl rfl (by kernel_rfl) (by kernel_rfl) (by kernel_rfl) (fun _ _ _ h => h) (by rfl) (fun W _ => by go_simp) hHeld ?_
      simp only [Act.put, List.setIfInBounds_toArray, List.set_cons_zero, List.set_cons_succ]
      refine held_take (i := 9) (d := 94) (v := .bool true) rfl rfl (by kernel_rfl) (by kernel_rfl) (by kernel_rfl) (fun _ _ _ h => h) (by rfl) (fun W _ => by go_simp) hHeld ?_
      simp only [Act.put, List.setIfInBounds_toArray, List.set_cons_zero, List.set_cons_succ]
      refine held_take (i := 10) (d := 95) (v := .bool true) rfl rfl (by kernel_rfl) (by kernel_rfl) (by kernel_rfl) (fun _ _ _ h => h) (by rfl) (fun W _ => run_move_is (.tmp 94) rfl rfl W) hHeld ?_
      simp only [Act.put, List.setIfInBounds_toArray, List.set_cons_zero, List.set_cons_succ]
      refine held_take (i := 11) (d := 96) (v := .pointer (some ⟨p, 0, none⟩)) rfl rfl (by kernel_rfl) (by kernel_rfl) (by kernel_rfl) (fun _ _ _ h => h) (by rfl) (fun W _ => run_move_is (.tmp 16) rfl rfl W) hHeld ?_
      simp only [Act.put, List.setIfInBounds_toArray, List.set_cons_zero, List.set_cons_succ]
      refine held_take (i := 12) (d := 97) (v := .pointer (some ⟨p + 1, 0, none⟩)) rfl rfl (by kernel_rfl) (by kernel_rfl) (by kernel_rfl) (fun _ _ _ h => h) (by rfl) (fun W _ => run_move_is (.tmp 17) rfl rfl W) hHeld ?_
      simp only [Act.put, List.setIfInBounds_toArray, List.set_cons_zero, List.set_cons_succ]
      refine held_take (i := 13) (d := 98) (v := .int .i64 a3) rfl rfl (by kernel_rfl) (by kernel_rfl) (by kernel_rfl) (fun _ _ _ h => h) (by rfl) (fun W _ => run_move_is (.tmp 3) rfl rfl W) hHeld ?_
      simp only [Act.put, List.setIfInBounds_toArray, List.set_cons_zero, List.set_cons_succ]
      have HCL := Lib.hid (HAK.out)
      refine held_one (i := 14) (by kernel_rfl) ?_
      refine held_callX (d := 99) rfl rfl (by rfl) rfl (by kernel_rfl) Try.func18 (by kernel_rfl) HCL.out ?_
      rintro e x4 ⟨rfl, hb4⟩
      have HFB := Lib.hid (PlE.bel (PlE.go HP3.out hb4))
      have HS4 : Hid (EvB x4 eb zp zo zh za ze) := Lib.hid (PlE.ev (PlE.go HP3.out hb4)).1
      clear hb4
      refine ⟨_, rfl, ?_⟩
      clear HCL hHeld
      have hHeld := HS4.out
      refine ⟨hHeld, ?_⟩
      simp only [Act.put, List.setIfInBounds_toArray, List.set_cons_zero, List.set_cons_succ]
      refine held_take (i := 15) (d := 100) (v := .bool true) rfl rfl (by kernel_rfl) (by kernel_rfl) (by kernel_rfl) (fun _ _ _ h => h) (by rfl) (fun W _ => by go_simp) hHeld ?_
      simp only [Act.put, List.setIfInBounds_toArray, List.set_cons_zero, List.set_cons_succ]
      refine held_take (i := 16) (d := 8) (v := .bool true) rfl rfl (by kernel_rfl) (by kernel_rfl) (by kernel_rfl) (fun _ _ _ h => h) (by rfl) (fun W _ => by go_simp) hHeld ?_
      simp only [Act.put, List.setIfInBounds_toArray, List.set_cons_zero, List.set_cons_succ]
      refine wpAnyH_done (by kernel_rfl) ?_ _
      clear hHeld
      clear HS0 HP0 HPP HD0 hE hLL
      go_wp2
      go_ret
      exact ⟨rfl, HFB.out⟩
    · have hn1 : 2 ≤ nr := by omega
      go_wp2_with fail
      rw [hnr]
      refine (HBD.out (65535 + nr) wa (by omega)).mono ?_
      rintro e wb ⟨rfl, hwb⟩
      subst hwb
      have HBB := HBA
      clear HBA
      go_wp2_with fail
      have HOC := Lib.hid (HOF.out wb HBB.out)
      clear HOF HOK HBD
      refine HOC.out.mono ?_
      rintro e wc ⟨tb, rfl, hts, htb, hbc⟩
      have HBC := Lib.hid (Below.then HBB.out hbc (Nat.le_refl _))
      have HEV := Lib.hid (event_any tb 0 T wc hts HFT.out (by omega))
      have HTB : Hid (w.heap.size ≤ tb) := Lib.hid (Nat.le_trans HBB.out.size htb)
      unfold EvM at HEV
      clear HOC hts htb hbc HBB
      go_wp2_with fail
      refine HEV.out.mono ?_
      rintro e wd ⟨zp, zo, zh, za, ze, j, _, hwh, hwa, _, rfl, htd, hod⟩
      have HWX : Hid (Word5 ⟨zp, zo, zh, za, ze⟩) := Lib.hid ⟨hwh, hwa⟩
      have HBD : Hid (Below w.heap.size w wd) := Lib.hid (HBC.out.trans (hod.below HTB.out HBC.out.size))
      have hbe : Below wd.heap.size wd (wd.alloc (.cells #[.int .i64 zp, .int .i64 zo, .int .u64 zh, .int .u64 za, .int .i64 ze] 27)) := (Below.refl _ _).alloc (Nat.le_refl _) _
      have HTE := Lib.hid (htd.go hbe)
      have HBE : Hid (Below w.heap.size w (wd.alloc (.cells #[.int .i64 zp, .int .i64 zo, .int .u64 zh, .int .u64 za, .int .i64 ze] 27))) := Lib.hid (Below.then HBD.out hbe (Nat.le_refl _))
      have hxe := EvB.new (w := wd) (p := zp) (o := zo) (h := zh) (a := za) (e := ze)
      have HXE := Lib.hid hxe
      obtain ⟨q0, q1, q2, q3, q4⟩ := hxe.cells
      have HEW : Hid (w.heap.size ≤ wd.heap.size) := Lib.hid HBD.out.size
      have HMI := Lib.hid (missN_any a3 (wd.alloc (.cells #[.int .i64 zp, .int .i64 zo, .int .u64 zh, .int .u64 za, .int .i64 ze] 27)))
      clear hwh hwa htd hod hbe hxe HEV HBC HBD
      go_wp2_with fail
      generalize wd.alloc (.cells #[.int .i64 zp, .int .i64 zo, .int .u64 zh, .int .u64 za, .int .i64 ze] 27) = we at *
      generalize wd.heap.size = eb at *
      refine HMI.out.mono ?_
      rintro e wf ⟨rfl, hwf⟩
      subst hwf
      have HAN := Lib.hid (appendN_any zp zo zh za ze wf)
      clear HMI
      go_wp2_with fail
      refine HAN.out.mono ?_
      rintro e wg ⟨rfl, hbg⟩
      have HBG := Lib.hid (Below.then HBE.out hbg (Nat.le_refl _))
      have HTG := Lib.hid (HTE.out.go hbg)
      have hxg := HXE.out.go hbg
      have HXG := Lib.hid hxg
      have HBM := Lib.hid ((Below.refl wg.heap.size wg).alloc (Nat.le_refl _) (.cells #[.int .i64 0, .slice none 0 0, .slice none 0 0] 38))
      have HAL := Lib.hid (alike17_any (w := wg.alloc (.cells #[.int .i64 0, .slice none 0 0, .slice none 0 0] 38)) (P := none) (cap := 0) (last := 0) (L := []) (M := []) (f := fun _ => 0) (g := fun _ => 0) (m := wg.heap.size) (z := a3) (.inr ⟨rfl, rfl, rfl, fun _ => rfl, fun _ => rfl⟩) (fun h => absurd rfl h) (Mgb.made 0 wg (fun _ => 0) 0 rfl).r Goods.nil (by simp) (by simp) HRZ.out rfl rfl)
      clear q0 q1 q2 q3 q4 HAN HBE HTE HXE hbg hxg
      go_wp2_with fail
      generalize wg.alloc (.cells #[.int .i64 0, .slice none 0 0, .slice none 0 0] 38) = wh at *
      refine HAL.out.mono ?_
      rintro e wi ⟨rfl, hbi⟩
      have hgi := Below.then HBM.out hbi (Nat.le_refl _)
      have HBI := Lib.hid (Below.then HBG.out hgi (Nat.le_refl _))
      have HTI := Lib.hid (HTG.out.go hgi)
      have HXI := Lib.hid (HXG.out.go hgi)
      clear hbi hgi HAL HBM HBG HTG HXG
      have HLG : Hid (∀ c : Nat → Nat, c wi.heap.size = 1 → Lgl (wi.alloc (.cells #[.int .i64 0, .slice none 0 0, .int .u64 0, .map none, .map none] 50)) c 1 wi.heap.size 0 [] []) := Lib.hid (fun c hc => Lgl.made 0 wi c 1 hc)
      have hsz : (wi.alloc (.cells #[.int .i64 0, .slice none 0 0, .int .u64 0, .map none, .map none] 50)).heap.size = wi.heap.size + 1 := by simp
      have HMG : Hid (∀ c : Nat → Nat, c (wi.alloc (.cells #[.int .i64 0, .slice none 0 0, .int .u64 0, .map none, .map none] 50)).heap.size = 2 → Mgb ((wi.alloc (.cells #[.int .i64 0, .slice none 0 0, .int .u64 0, .map none, .map none] 50)).alloc (.cells #[.int .i64 0, .slice none 0 0, .slice none 0 0] 38)) c 2 (wi.alloc (.cells #[.int .i64 0, .slice none 0 0, .int .u64 0, .map none, .map none] 50)).heap.size 0 [] []) := Lib.hid (fun c hc => Mgb.made 0 (wi.alloc (.cells #[.int .i64 0, .slice none 0 0, .int .u64 0, .map none, .map none] 50)) c 2 hc)
      rw [hsz] at HMG
      have HPP : Hid (PlE w eb tb wi.heap.size (wi.heap.size + 1) 0 T ⟨zp, zo, zh, za, ze⟩ [] [] [] [] j eb ⟨zp, zo, zh, za, ze⟩ ((wi.alloc (.cells #[.int .i64 0, .slice none 0 0, .int .u64 0, .map none, .map none] 50)).alloc (.cells #[.int .i64 0, .slice none 0 0, .slice none 0 0] 38))) := Lib.hid (by
        have hb1 : Below wi.heap.size wi (wi.alloc (.cells #[.int .i64 0, .slice none 0 0, .int .u64 0, .map none, .map none] 50)) := (Below.refl _ _).alloc (Nat.le_refl _) _
        have hb2 : Below (wi.alloc (.cells #[.int .i64 0, .slice none 0 0, .int .u64 0, .map none, .map none] 50)).heap.size (wi.alloc (.cells #[.int .i64 0, .slice none 0 0, .int .u64 0, .map none, .map none] 50)) ((wi.alloc (.cells #[.int .i64 0, .slice none 0 0, .int .u64 0, .map none, .map none] 50)).alloc (.cells #[.int .i64 0, .slice none 0 0, .slice none 0 0] 38)) := (Below.refl _ _).alloc (Nat.le_refl _) _
        have hb3 := Below.then hb1 hb2 (Nat.le_refl _)
        have h1 := HXI.out.lt
        have h2 := HTI.out.lt
        have h3 := HBI.out.size
        have h4 := HTB.out
        have h5 := HEW.out
        exact ⟨cpm wi.heap.size (wi.heap.size + 1), fun g hg => cpm_0 (by omega) (by omega), Below.then HBI.out hb3 (Nat.le_refl _), (HLG.out _ (cpm_p _ _)).kept (j := 3) (Kept.ofBelow hb2) (by omega) (fun _ _ => rfl), HMG.out _ (cpm_m (by omega)), HTI.out.go hb3, cpm_0 (by omega) (by omega), h4,
          HXI.out.go hb3, cpm_0 (by omega) (by omega), HXI.out.go hb3, cpm_0 (by omega) (by omega), h5, fun g _ e => cpm_1 e, fun g _ e => cpm_2 e⟩)
      clear HLG HMG HTI HXI HBI
      go_wp2
      generalize (wi.alloc (.cells #[.int .i64 0, .slice none 0 0, .int .u64 0, .map none, .map none] 50)).alloc (.cells #[.int .i64 0, .slice none 0 0, .slice none 0 0] 38) = wk at *
      generalize wi.heap.size = p at *
      have HD0 := Lib.hid (below_drewN (Below.refl wk.heap.size wk) 1)
      have HP0 := Lib.hid (PlE.go HPP.out HD0.out)
      have HS0 : Hid (EvB wk.drew eb zp zo zh za ze) := Lib.hid HP0.out.ev.1
      obtain ⟨E, hE⟩ : ∃ E, apE 0 [] ⟨zp, zo, zh, za, ze⟩ = E := ⟨_, rfl⟩
      obtain ⟨LL, hLL⟩ : ∃ LL, apL 0 [] ⟨zp, zo, zh, za, ze⟩ = LL := ⟨_, rfl⟩
      have hLn : LL.length ≤ 1 := by
        rw [← hLL]
        unfold apL
        split <;> simp
      refine wp_region_hand 17 (fun W => EvB W eb zp zo zh za ze) (by kernel_rfl) (by kernel_rfl) ?_
      rw [show Array.replicate 17 false = #[false, false, false, false, false, false, false, false, false, false, false, false, false, false, false, false, false] from rfl]
      have hHeld := HS0.out
      have HCL := Lib.hid (HAW.out wk.drew)
      refine held_one (i := 0) (by kernel_rfl) ?_
      refine held_callX (d := 85) rfl rfl (by rfl) rfl (by kernel_rfl) Try.func11 (by kernel_rfl) HCL.out ?_
      rintro e x1 ⟨rfl, hx1⟩
      have HP1 := Lib.hid (PlE.go HP0.out hx1)
      have HPA := Lib.hid (PlE.append HP1.out ⟨zp, zo, zh, za, ze⟩ (by simp) HWX.out)
      rw [hE, hLL] at HPA
      have HS1 : Hid (EvB x1 eb zp zo zh za ze) := Lib.hid HP1.out.ev.1
      clear hx1
      refine ⟨_, rfl, ?_⟩
      clear HCL hHeld
      have hHeld := HS1.out
      refine ⟨hHeld, ?_⟩
      simp only [Act.put, List.setIfInBounds_toArray, List.set_cons_zero, List.set_cons_succ]
      refine held_take (i := 1) (d := 86) (v := .bool true) rfl rfl (by kernel_rfl) (by kernel_rfl) (by kernel_rfl) (fun _ _ _ h => h) (by rfl) (fun W _ => run_move_is (.tmp 85) rfl rfl W) hHeld ?_
      simp only [Act.put, List.setIfInBounds_toArray, List.set_cons_zero, List.set_cons_succ]
      refine held_take (i := 2) (d := 87) (v := .pointer (some ⟨p, 0, none⟩)) rfl rfl (by kernel_rfl) (by kernel_rfl) (by kernel_rfl) (fun _ _ _ h => h) (by rfl) (fun W _ => run_move_is (.tmp 16) rfl rfl W) hHeld ?_
      simp only [Act.put, List.setIfInBounds_toArray, List.set_cons_zero, List.set_cons_succ]
      refine held_take (i := 3) (d := 88) (v := .agg #[.int .i64 zp, .int .i64 zo, .int .u64 zh, .int .u64 za, .int .i64 ze]) rfl rfl (by kernel_rfl) (by kernel_rfl) (by kernel_rfl) (fun _ _ _ h => h) (by rfl) (fun W hW => by obtain ⟨q0, q1, q2, q3, q4⟩ := EvB.cells hW; go_simp) hHeld ?_
      simp only [Act.put, List.setIfInBounds_toArray, List.set_cons_zero, List.set_cons_succ]
      refine held_take (i := 5) (d := 90) (v := .pointer (some ⟨p + 1, 0, none⟩)) rfl rfl (by kernel_rfl) (by kernel_rfl) (by kernel_rfl) (fun _ _ _ h => h) (by rfl) (fun W _ => run_move_is (.tmp 17) rfl rfl W) hHeld ?_
      simp only [Act.put, List.setIfInBounds_toArray, List.set_cons_zero, List.set_cons_succ]
      refine held_take (i := 6) (d := 91) (v := .agg #[.int .i64 zp, .int .i64 zo, .int .u64 zh, .int .u64 za, .int .i64 ze]) rfl rfl (by kernel_rfl) (by kernel_rfl) (by kernel_rfl) (fun _ _ _ h => h) (by rfl) (fun W hW => by obtain ⟨q0, q1, q2, q3, q4⟩ := EvB.cells hW; go_simp) hHeld ?_
      simp only [Act.put, List.setIfInBounds_toArray, List.set_cons_zero, List.set_cons_succ]
      have HCL := Lib.hid (HPA.out)
      refine held_one (i := 4) (by kernel_rfl) ?_
      refine held_callX (d := 89) rfl rfl (by rfl) rfl (by kernel_rfl) Try.func15 (by kernel_rfl) HCL.out ?_
      rintro e x2 ⟨rfl, hp2⟩
      have HPM := Lib.hid (PlE.appendM hp2 ⟨zp, zo, zh, za, ze⟩ (by simp))
      rw [hE, hLL] at HPM
      have HS2 : Hid (EvB x2 eb zp zo zh za ze) := Lib.hid hp2.ev.1
      clear hp2
      refine ⟨_, rfl, ?_⟩
      clear HCL hHeld
      have hHeld := HS2.out
      refine ⟨hHeld, ?_⟩
      simp only [Act.put, List.setIfInBounds_toArray, List.set_cons_zero, List.set_cons_succ]
      have HCL := Lib.hid (HPM.out)
      refine held_one (i := 7) (by kernel_rfl) ?_
      refine held_callX (d := 92) rfl rfl (by rfl) rfl (by kernel_rfl) Try.func16 (by kernel_rfl) HCL.out ?_
      rintro e x3 ⟨rfl, hp3⟩
      have HP3 := Lib.hid hp3
      have HAK := Lib.hid (PlE.alike hp3 a3 HRZ.out (by omega) (by simp))
      have HS3 : Hid (EvB x3 eb zp zo zh za ze) := Lib.hid hp3.ev.1
      clear hp3
      refine ⟨_, rfl, ?_⟩
      clear HCL hHeld
      have hHeld := HS3.out
      refine ⟨hHeld, ?_⟩
      simp only [Act.put, List.setIfInBounds_toArray, List.set_cons_zero, List.set_cons_succ]
      refine held_take (i := 8) (d := 93) (v := .bool true) rfl rfl (by kernel_rfl) (by kernel_rfl) (by kernel_rfl) (fun _ _ _ h => h) (by rfl) (fun W _ => by go_simp) hHeld ?_
      simp only [Act.put, List.setIfInBounds_toArray, List.set_cons_zero, List.set_cons_succ]
      refine held_take (i := 9) (d := 94) (v := .bool true) rfl rfl (by kernel_rfl) (by kernel_rfl) (by kernel_rfl) (fun _ _ _ h => h) (by rfl) (fun W _ => by go_simp) hHeld ?_
      simp only [Act.put, List.setIfInBounds_toArray, List.set_cons_zero, List.set_cons_succ]
      refine held_take (i := 10) (d := 95) (v := .bool true) rfl rfl (by kernel_rfl) (by kernel_rfl) (by kernel_rfl) (fun _ _ _ h => h) (by rfl) (fun W _ => run_move_is (.tmp 94) rfl rfl W) hHeld ?_
      simp only [Act.put, List.setIfInBounds_toArray, List.set_cons_zero, List.set_cons_succ]
      refine held_take (i := 11) (d := 96) (v := .pointer (some ⟨p, 0, none⟩)) rfl rfl (by kernel_rfl) (by kernel_rfl) (by kernel_rfl) (fun _ _ _ h => h) (by rfl) (fun W _ => run_move_is (.tmp 16) rfl rfl W) hHeld ?_
      simp only [Act.put, List.setIfInBounds_toArray, List.set_cons_zero, List.set_cons_succ]
      refine held_take (i := 12) (d := 97) (v := .pointer (some ⟨p + 1, 0, none⟩)) rfl rfl (by kernel_rfl) (by kernel_rfl) (by kernel_rfl) (fun _ _ _ h => h) (by rfl) (fun W _ => run_move_is (.tmp 17) rfl rfl W) hHeld ?_
      simp only [Act.put, List.setIfInBounds_toArray, List.set_cons_zero, List.set_cons_succ]
      refine held_take (i := 13) (d := 98) (v := .int .i64 a3) rfl rfl (by kernel_rfl) (by kernel_rfl) (by kernel_rfl) (fun _ _ _ h => h) (by rfl) (fun W _ => run_move_is (.tmp 3) rfl rfl W) hHeld ?_
      simp only [Act.put, List.setIfInBounds_toArray, List.set_cons_zero, List.set_cons_succ]
      have HCL := Lib.hid (HAK.out)
      refine held_one (i := 14) (by kernel_rfl) ?_
      refine held_callX (d := 99) rfl rfl (by rfl) rfl (by kernel_rfl) Try.func18 (by kernel_rfl) HCL.out ?_
      rintro e x4 ⟨rfl, hb4⟩
      have HFB := Lib.hid (PlE.bel (PlE.go HP3.out hb4))
      have HS4 : Hid (EvB x4 eb zp zo zh za ze) := Lib.hid (PlE.ev (PlE.go HP3.out hb4)).1
      clear hb4
      refine ⟨_, rfl, ?_⟩
      clear HCL hHeld
      have hHeld := HS4.out
      refine ⟨hHeld, ?_⟩
      simp only [Act.put, List.setIfInBounds_toArray, List.set_cons_zero, List.set_cons_succ]
      refine held_take (i := 15) (d := 100) (v := .bool true) rfl rfl (by kernel_rfl) (by kernel_rfl) (by kernel_rfl) (fun _ _ _ h => h) (by rfl) (fun W _ => by go_simp) hHeld ?_
      simp only [Act.put, List.setIfInBounds_toArray, List.set_cons_zero, List.set_cons_succ]
      refine held_take (i := 16) (d := 8) (v := .bool true) rfl rfl (by kernel_rfl) (by kernel_rfl) (by kernel_rfl) (fun _ _ _ h => h) (by rfl) (fun W _ => by go_simp) hHeld ?_
      simp only [Act.put, List.setIfInBounds_toArray, List.set_cons_zero, List.set_cons_succ]
      refine wpAnyH_done (by kernel_rfl) ?_ _
      clear hHeld
      clear HS0 HP0 HPP HD0 hE hLL
      go_wp2
      go_ret
      exact ⟨rfl, HFB.out⟩
  · have hb : a0 < 0 ∨ 65536 < a0 := by omega
    have hkb : decide (0 ≤ a0 ∧ a0 ≤ 65536) = false := decide_eq_false hok
    go_wp2_with fail
    refine (HBD.out a0 w hb).mono ?_
    rintro e wa ⟨rfl, hwa⟩
    have hwa' := hwa.symm
    subst hwa'
    have HBA : Hid (Below w.heap.size w w) := Lib.hid (Below.refl _ _)
    rcases hb with hb | hb
    · have d0 : ¬ 0 ≤ a0 := by omega
      by_cases hn : nr < 2
      · have hn1 : ¬ 2 ≤ nr := by omega
        go_wp2_with fail
        first | rw [hnr] | skip
        refine (HOK.out (65535 + nr) w (by omega) (by omega)).mono ?_
        rintro e wb ⟨p2, rfl, hp, _, hbb⟩
        have HBB := Lib.hid (Below.then HBA.out hbb (Nat.le_refl _))
        clear hp hbb HBA
        go_wp2_with fail
        have HOC := Lib.hid (HOF.out wb HBB.out)
        clear HOF HOK HBD
        refine HOC.out.mono ?_
        rintro e wc ⟨tb, rfl, hts, htb, hbc⟩
        have HBC := Lib.hid (Below.then HBB.out hbc (Nat.le_refl _))
        have HEV := Lib.hid (event_any tb 0 T wc hts HFT.out (by omega))
        have HTB : Hid (w.heap.size ≤ tb) := Lib.hid (Nat.le_trans HBB.out.size htb)
        unfold EvM at HEV
        clear HOC hts htb hbc HBB
        go_wp2_with fail
        refine HEV.out.mono ?_
        rintro e wd ⟨zp, zo, zh, za, ze, j, _, hwh, hwa, _, rfl, htd, hod⟩
        have HWX : Hid (Word5 ⟨zp, zo, zh, za, ze⟩) := Lib.hid ⟨hwh, hwa⟩
        have HBD : Hid (Below w.heap.size w wd) := Lib.hid (HBC.out.trans (hod.below HTB.out HBC.out.size))
        have hbe : Below wd.heap.size wd (wd.alloc (.cells #[.int .i64 zp, .int .i64 zo, .int .u64 zh, .int .u64 za, .int .i64 ze] 27)) := (Below.refl _ _).alloc (Nat.le_refl _) _
        have HTE := Lib.hid (htd.go hbe)
        have HBE : Hid (Below w.heap.size w (wd.alloc (.cells #[.int .i64 zp, .int .i64 zo, .int .u64 zh, .int .u64 za, .int .i64 ze] 27))) := Lib.hid (Below.then HBD.out hbe (Nat.le_refl _))
        have hxe := EvB.new (w := wd) (p := zp) (o := zo) (h := zh) (a := za) (e := ze)
        have HXE := Lib.hid hxe
        obtain ⟨q0, q1, q2, q3, q4⟩ := hxe.cells
        have HEW : Hid (w.heap.size ≤ wd.heap.size) := Lib.hid HBD.out.size
        have HMI := Lib.hid (missN_any a3 (wd.alloc (.cells #[.int .i64 zp, .int .i64 zo, .int .u64 zh, .int .u64 za, .int .i64 ze] 27)))
        clear hwh hwa htd hod hbe hxe HEV HBC HBD
        go_wp2_with fail
        generalize wd.alloc (.cells #[.int .i64 zp, .int .i64 zo, .int .u64 zh, .int .u64 za, .int .i64 ze] 27) = we at *
        generalize wd.heap.size = eb at *
        refine HMI.out.mono ?_
        rintro e wf ⟨rfl, hwf⟩
        subst hwf
        have HAN := Lib.hid (appendN_any zp zo zh za ze wf)
        clear HMI
        go_wp2_with fail
        refine HAN.out.mono ?_
        rintro e wg ⟨rfl, hbg⟩
        have HBG := Lib.hid (Below.then HBE.out hbg (Nat.le_refl _))
        have HTG := Lib.hid (HTE.out.go hbg)
        have hxg := HXE.out.go hbg
        have HXG := Lib.hid hxg
        have HBM := Lib.hid ((Below.refl wg.heap.size wg).alloc (Nat.le_refl _) (.cells #[.int .i64 0, .slice none 0 0, .slice none 0 0] 38))
        have HAL := Lib.hid (alike17_any (w := wg.alloc (.cells #[.int .i64 0, .slice none 0 0, .slice none 0 0] 38)) (P := none) (cap := 0) (last := 0) (L := []) (M := []) (f := fun _ => 0) (g := fun _ => 0) (m := wg.heap.size) (z := a3) (.inr ⟨rfl, rfl, rfl, fun _ => rfl, fun _ => rfl⟩) (fun h => absurd rfl h) (Mgb.made 0 wg (fun _ => 0) 0 rfl).r Goods.nil (by simp) (by simp) HRZ.out rfl rfl)
        clear q0 q1 q2 q3 q4 HAN HBE HTE HXE hbg hxg
        go_wp2_with fail
        generalize wg.alloc (.cells #[.int .i64 0, .slice none 0 0, .slice none 0 0] 38) = wh at *
        refine HAL.out.mono ?_
        rintro e wi ⟨rfl, hbi⟩
        have hgi := Below.then HBM.out hbi (Nat.le_refl _)
        have HBI := Lib.hid (Below.then HBG.out hgi (Nat.le_refl _))
        have HTI := Lib.hid (HTG.out.go hgi)
        have HXI := Lib.hid (HXG.out.go hgi)
        clear hbi hgi HAL HBM HBG HTG HXG
        have HLG : Hid (∀ c : Nat → Nat, c wi.heap.size = 1 → Lgl (wi.alloc (.cells #[.int .i64 0, .slice none 0 0, .int .u64 0, .map none, .map none] 50)) c 1 wi.heap.size 0 [] []) := Lib.hid (fun c hc => Lgl.made 0 wi c 1 hc)
        have hsz : (wi.alloc (.cells #[.int .i64 0, .slice none 0 0, .int .u64 0, .map none, .map none] 50)).heap.size = wi.heap.size + 1 := by simp
        have HMG : Hid (∀ c : Nat → Nat, c (wi.alloc (.cells #[.int .i64 0, .slice none 0 0, .int .u64 0, .map none, .map none] 50)).heap.size = 2 → Mgb ((wi.alloc (.cells #[.int .i64 0, .slice none 0 0, .int .u64 0, .map none, .map none] 50)).alloc (.cells #[.int .i64 0, .slice none 0 0, .slice none 0 0] 38)) c 2 (wi.alloc (.cells #[.int .i64 0, .slice none 0 0, .int .u64 0, .map none, .map none] 50)).heap.size 0 [] []) := Lib.hid (fun c hc => Mgb.made 0 (wi.alloc (.cells #[.int .i64 0, .slice none 0 0, .int .u64 0, .map none, .map none] 50)) c 2 hc)
        rw [hsz] at HMG
        have HPP : Hid (PlE w eb tb wi.heap.size (wi.heap.size + 1) 0 T ⟨zp, zo, zh, za, ze⟩ [] [] [] [] j eb ⟨zp, zo, zh, za, ze⟩ ((wi.alloc (.cells #[.int .i64 0, .slice none 0 0, .int .u64 0, .map none, .map none] 50)).alloc (.cells #[.int .i64 0, .slice none 0 0, .slice none 0 0] 38))) := Lib.hid (by
          have hb1 : Below wi.heap.size wi (wi.alloc (.cells #[.int .i64 0, .slice none 0 0, .int .u64 0, .map none, .map none] 50)) := (Below.refl _ _).alloc (Nat.le_refl _) _
          have hb2 : Below (wi.alloc (.cells #[.int .i64 0, .slice none 0 0, .int .u64 0, .map none, .map none] 50)).heap.size (wi.alloc (.cells #[.int .i64 0, .slice none 0 0, .int .u64 0, .map none, .map none] 50)) ((wi.alloc (.cells #[.int .i64 0, .slice none 0 0, .int .u64 0, .map none, .map none] 50)).alloc (.cells #[.int .i64 0, .slice none 0 0, .slice none 0 0] 38)) := (Below.refl _ _).alloc (Nat.le_refl _) _
          have hb3 := Below.then hb1 hb2 (Nat.le_refl _)
          have h1 := HXI.out.lt
          have h2 := HTI.out.lt
          have h3 := HBI.out.size
          have h4 := HTB.out
          have h5 := HEW.out
          exact ⟨cpm wi.heap.size (wi.heap.size + 1), fun g hg => cpm_0 (by omega) (by omega), Below.then HBI.out hb3 (Nat.le_refl _), (HLG.out _ (cpm_p _ _)).kept (j := 3) (Kept.ofBelow hb2) (by omega) (fun _ _ => rfl), HMG.out _ (cpm_m (by omega)), HTI.out.go hb3, cpm_0 (by omega) (by omega), h4,
            HXI.out.go hb3, cpm_0 (by omega) (by omega), HXI.out.go hb3, cpm_0 (by omega) (by omega), h5, fun g _ e => cpm_1 e, fun g _ e => cpm_2 e⟩)
        clear HLG HMG HTI HXI HBI
        go_wp2
        generalize (wi.alloc (.cells #[.int .i64 0, .slice none 0 0, .int .u64 0, .map none, .map none] 50)).alloc (.cells #[.int .i64 0, .slice none 0 0, .slice none 0 0] 38) = wk at *
        generalize wi.heap.size = p at *
        have HD0 := Lib.hid (below_drewN (Below.refl wk.heap.size wk) 1)
        have HP0 := Lib.hid (PlE.go HPP.out HD0.out)
        have HS0 : Hid (EvB wk.drew eb zp zo zh za ze) := Lib.hid HP0.out.ev.1
        obtain ⟨E, hE⟩ : ∃ E, apE 0 [] ⟨zp, zo, zh, za, ze⟩ = E := ⟨_, rfl⟩
        obtain ⟨LL, hLL⟩ : ∃ LL, apL 0 [] ⟨zp, zo, zh, za, ze⟩ = LL := ⟨_, rfl⟩
        have hLn : LL.length ≤ 1 := by
          rw [← hLL]
          unfold apL
          split <;> simp
        refine wp_region_hand 17 (fun W => EvB W eb zp zo zh za ze) (by kernel_rfl) (by kernel_rfl) ?_
        rw [show Array.replicate 17 false = #[false, false, false, false, false, false, false, false, false, false, false, false, false, false, false, false, false] from rfl]
        have hHeld := HS0.out
        have HCL := Lib.hid (HAW.out wk.drew)
        refine held_one (i := 0) (by kernel_rfl) ?_
        refine held_callX (d := 85) rfl rfl (by rfl) rfl (by kernel_rfl) Try.func11 (by kernel_rfl) HCL.out ?_
        rintro e x1 ⟨rfl, hx1⟩
        have HP1 := Lib.hid (PlE.go HP0.out hx1)
        have HPA := Lib.hid (PlE.append HP1.out ⟨zp, zo, zh, za, ze⟩ (by simp) HWX.out)
        rw [hE, hLL] at HPA
        have HS1 : Hid (EvB x1 eb zp zo zh za ze) := Lib.hid HP1.out.ev.1
        clear hx1
        refine ⟨_, rfl, ?_⟩
        clear HCL hHeld
        have hHeld := HS1.out
        refine ⟨hHeld, ?_⟩
        simp only [Act.put, List.setIfInBounds_toArray, List.set_cons_zero, List.set_cons_succ]
        refine held_take (i := 1) (d := 86) (v := .bool true) rfl rfl (by kernel_rfl) (by kernel_rfl) (by kernel_rfl) (fun _ _ _ h => h) (by rfl) (fun W _ => run_move_is (.tmp 85) rfl rfl W) hHeld ?_
        simp only [Act.put, List.setIfInBounds_toArray, List.set_cons_zero, List.set_cons_succ]
        refine held_take (i := 2) (d := 87) (v := .pointer (some ⟨p, 0, none⟩)) rfl rfl (by kernel_rfl) (by kernel_rfl) (by kernel_rfl) (fun _ _ _ h => h) (by rfl) (fun W _ => run_move_is (.tmp 16) rfl rfl W) hHeld ?_
        simp only [Act.put, List.setIfInBounds_toArray, List.set_cons_zero, List.set_cons_succ]
        refine held_take (i := 3) (d := 88) (v := .agg #[.int .i64 zp, .int .i64 zo, .int .u64 zh, .int .u64 za, .int .i64 ze]) rfl rfl (by kernel_rfl) (by kernel_rfl) (by kernel_rfl) (fun _ _ _ h => h) (by rfl) (fun W hW => by obtain ⟨q0, q1, q2, q3, q4⟩ := EvB.cells hW; go_simp) hHeld ?_
        simp only [Act.put, List.setIfInBounds_toArray, List.set_cons_zero, List.set_cons_succ]
        refine held_take (i := 5) (d := 90) (v := .pointer (some ⟨p + 1, 0, none⟩)) rfl rfl (by kernel_rfl) (by kernel_rfl) (by kernel_rfl) (fun _ _ _ h => h) (by rfl) (fun W _ => run_move_is (.tmp 17) rfl rfl W) hHeld ?_
        simp only [Act.put, List.setIfInBounds_toArray, List.set_cons_zero, List.set_cons_succ]
        refine held_take (i := 6) (d := 91) (v := .agg #[.int .i64 zp, .int .i64 zo, .int .u64 zh, .int .u64 za, .int .i64 ze]) rfl rfl (by kernel_rfl) (by kernel_rfl) (by kernel_rfl) (fun _ _ _ h => h) (by rfl) (fun W hW => by obtain ⟨q0, q1, q2, q3, q4⟩ := EvB.cells hW; go_simp) hHeld ?_
        simp only [Act.put, List.setIfInBounds_toArray, List.set_cons_zero, List.set_cons_succ]
        have HCL := Lib.hid (HPA.out)
        refine held_one (i := 4) (by kernel_rfl) ?_
        refine held_callX (d := 89) rfl rfl (by rfl) rfl (by kernel_rfl) Try.func15 (by kernel_rfl) HCL.out ?_
        rintro e x2 ⟨rfl, hp2⟩
        have HPM := Lib.hid (PlE.appendM hp2 ⟨zp, zo, zh, za, ze⟩ (by simp))
        rw [hE, hLL] at HPM
        have HS2 : Hid (EvB x2 eb zp zo zh za ze) := Lib.hid hp2.ev.1
        clear hp2
        refine ⟨_, rfl, ?_⟩
        clear HCL hHeld
        have hHeld := HS2.out
        refine ⟨hHeld, ?_⟩
        simp only [Act.put, List.setIfInBounds_toArray, List.set_cons_zero, List.set_cons_succ]
        have HCL := Lib.hid (HPM.out)
        refine held_one (i := 7) (by kernel_rfl) ?_
        refine held_callX (d := 92) rfl rfl (by rfl) rfl (by kernel_rfl) Try.func16 (by kernel_rfl) HCL.out ?_
        rintro e x3 ⟨rfl, hp3⟩
        have HP3 := Lib.hid hp3
        have HAK := Lib.hid (PlE.alike hp3 a3 HRZ.out (by omega) (by simp))
        have HS3 : Hid (EvB x3 eb zp zo zh za ze) := Lib.hid hp3.ev.1
        clear hp3
        refine ⟨_, rfl, ?_⟩
        clear HCL hHeld
        have hHeld := HS3.out
        refine ⟨hHeld, ?_⟩
        simp only [Act.put, List.setIfInBounds_toArray, List.set_cons_zero, List.set_cons_succ]
        refine held_take (i := 8) (d := 93) (v := .bool true) rfl rfl (by kernel_rfl) (by kernel_rfl) (by kernel_rfl) (fun _ _ _ h => h) (by rfl) (fun W _ => by go_simp) hHeld ?_
        simp only [Act.put, List.setIfInBounds_toArray, List.set_cons_zero, List.set_cons_succ]
        refine held_take (i := 9) (d := 94) (v := .bool true) rfl rfl (by kernel_rfl) (by kernel_rfl) (by kernel_rfl) (fun _ _ _ h => h) (by rfl) (fun W _ => by go_simp) hHeld ?_
        simp only [Act.put, List.setIfInBounds_toArray, List.set_cons_zero, List.set_cons_succ]
        refine held_take (i := 10) (d := 95) (v := .bool true) rfl rfl (by kernel_rfl) (by kernel_rfl) (by kernel_rfl) (fun _ _ _ h => h) (by rfl) (fun W _ => run_move_is (.tmp 94) rfl rfl W) hHeld ?_
        simp only [Act.put, List.setIfInBounds_toArray, List.set_cons_zero, List.set_cons_succ]
        refine held_take (i := 11) (d := 96) (v := .pointer (some ⟨p, 0, none⟩)) rfl rfl (by kernel_rfl) (by kernel_rfl) (by kernel_rfl) (fun _ _ _ h => h) (by rfl) (fun W _ => run_move_is (.tmp 16) rfl rfl W) hHeld ?_
        simp only [Act.put, List.setIfInBounds_toArray, List.set_cons_zero, List.set_cons_succ]
        refine held_take (i := 12) (d := 97) (v := .pointer (some ⟨p + 1, 0, none⟩)) rfl rfl (by kernel_rfl) (by kernel_rfl) (by kernel_rfl) (fun _ _ _ h => h) (by rfl) (fun W _ => run_move_is (.tmp 17) rfl rfl W) hHeld ?_
        simp only [Act.put, List.setIfInBounds_toArray, List.set_cons_zero, List.set_cons_succ]
        refine held_take (i := 13) (d := 98) (v := .int .i64 a3) rfl rfl (by kernel_rfl) (by kernel_rfl) (by kernel_rfl) (fun _ _ _ h => h) (by rfl) (fun W _ => run_move_is (.tmp 3) rfl rfl W) hHeld ?_
        simp only [Act.put, List.setIfInBounds_toArray, List.set_cons_zero, List.set_cons_succ]
        have HCL := Lib.hid (HAK.out)
        refine held_one (i := 14) (by kernel_rfl) ?_
        refine held_callX (d := 99) rfl rfl (by rfl) rfl (by kernel_rfl) Try.func18 (by kernel_rfl) HCL.out ?_
        rintro e x4 ⟨rfl, hb4⟩
        have HFB := Lib.hid (PlE.bel (PlE.go HP3.out hb4))
        have HS4 : Hid (EvB x4 eb zp zo zh za ze) := Lib.hid (PlE.ev (PlE.go HP3.out hb4)).1
        clear hb4
        refine ⟨_, rfl, ?_⟩
        clear HCL hHeld
        have hHeld := HS4.out
        refine ⟨hHeld, ?_⟩
        simp only [Act.put, List.setIfInBounds_toArray, List.set_cons_zero, List.set_cons_succ]
        refine held_take (i := 15) (d := 100) (v := .bool true) rfl rfl (by kernel_rfl) (by kernel_rfl) (by kernel_rfl) (fun _ _ _ h => h) (by rfl) (fun W _ => by go_simp) hHeld ?_
        simp only [Act.put, List.setIfInBounds_toArray, List.set_cons_zero, List.set_cons_succ]
        refine held_take (i := 16) (d := 8) (v := .bool true) rfl rfl (by kernel_rfl) (by kernel_rfl) (by kernel_rfl) (fun _ _ _ h => h) (by rfl) (fun W _ => by go_simp) hHeld ?_
        simp only [Act.put, List.setIfInBounds_toArray, List.set_cons_zero, List.set_cons_succ]
        refine wpAnyH_done (by kernel_rfl) ?_ _
        clear hHeld
        clear HS0 HP0 HPP HD0 hE hLL
        go_wp2
        go_ret
        exact ⟨rfl, HFB.out⟩
      · have hn1 : 2 ≤ nr := by omega
        go_wp2_with fail
        first | rw [hnr] | skip
        refine (HBD.out (65535 + nr) w (by omega)).mono ?_
        rintro e wb ⟨rfl, hwb⟩
        have HBB : Hid (Below w.heap.size w wb) := Lib.hid (by rw [hwb]; exact Below.refl _ _)
        clear HBA hwb
        go_wp2_with fail
        have HOC := Lib.hid (HOF.out wb HBB.out)
        clear HOF HOK HBD
        refine HOC.out.mono ?_
        rintro e wc ⟨tb, rfl, hts, htb, hbc⟩
        have HBC := Lib.hid (Below.then HBB.out hbc (Nat.le_refl _))
        have HEV := Lib.hid (event_any tb 0 T wc hts HFT.out (by omega))
        have HTB : Hid (w.heap.size ≤ tb) := Lib.hid (Nat.le_trans HBB.out.size htb)
        unfold EvM at HEV
        clear HOC hts htb hbc HBB
        go_wp2_with fail
        refine HEV.out.mono ?_
        rintro e wd ⟨zp, zo, zh, za, ze, j, _, hwh, hwa, _, rfl, htd, hod⟩
        have HWX : Hid (Word5 ⟨zp, zo, zh, za, ze⟩) := Lib.hid ⟨hwh, hwa⟩
        have HBD : Hid (Below w.heap.size w wd) := Lib.hid (HBC.out.trans (hod.below HTB.out HBC.out.size))
        have hbe : Below wd.heap.size wd (wd.alloc (.cells #[.int .i64 zp, .int .i64 zo, .int .u64 zh, .int .u64 za, .int .i64 ze] 27)) := (Below.refl _ _).alloc (Nat.le_refl _) _
        have HTE := Lib.hid (htd.go hbe)
        have HBE : Hid (Below w.heap.size w (wd.alloc (.cells #[.int .i64 zp, .int .i64 zo, .int .u64 zh, .int .u64 za, .int .i64 ze] 27))) := Lib.hid (Below.then HBD.out hbe (Nat.le_refl _))
        have hxe := EvB.new (w := wd) (p := zp) (o := zo) (h := zh) (a := za) (e := ze)
        have HXE := Lib.hid hxe
        obtain ⟨q0, q1, q2, q3, q4⟩ := hxe.cells
        have HEW : Hid (w.heap.size ≤ wd.heap.size) := Lib.hid HBD.out.size
        have HMI := Lib.hid (missN_any a3 (wd.alloc (.cells #[.int .i64 zp, .int .i64 zo, .int .u64 zh, .int .u64 za, .int .i64 ze] 27)))
        clear hwh hwa htd hod hbe hxe HEV HBC HBD
        go_wp2_with fail
        generalize wd.alloc (.cells #[.int .i64 zp, .int .i64 zo, .int .u64 zh, .int .u64 za, .int .i64 ze] 27) = we at *
        generalize wd.heap.size = eb at *
        refine HMI.out.mono ?_
        rintro e wf ⟨rfl, hwf⟩
        subst hwf
        have HAN := Lib.hid (appendN_any zp zo zh za ze wf)
        clear HMI
        go_wp2_with fail
        refine HAN.out.mono ?_
        rintro e wg ⟨rfl, hbg⟩
        have HBG := Lib.hid (Below.then HBE.out hbg (Nat.le_refl _))
        have HTG := Lib.hid (HTE.out.go hbg)
        have hxg := HXE.out.go hbg
        have HXG := Lib.hid hxg
        have HBM := Lib.hid ((Below.refl wg.heap.size wg).alloc (Nat.le_refl _) (.cells #[.int .i64 0, .slice none 0 0, .slice none 0 0] 38))
        have HAL := Lib.hid (alike17_any (w := wg.alloc (.cells #[.int .i64 0, .slice none 0 0, .slice none 0 0] 38)) (P := none) (cap := 0) (last := 0) (L := []) (M := []) (f := fun _ => 0) (g := fun _ => 0) (m := wg.heap.size) (z := a3) (.inr ⟨rfl, rfl, rfl, fun _ => rfl, fun _ => rfl⟩) (fun h => absurd rfl h) (Mgb.made 0 wg (fun _ => 0) 0 rfl).r Goods.nil (by simp) (by simp) HRZ.out rfl rfl)
        clear q0 q1 q2 q3 q4 HAN HBE HTE HXE hbg hxg
        go_wp2_with fail
        generalize wg.alloc (.cells #[.int .i64 0, .slice none 0 0, .slice none 0 0] 38) = wh at *
        refine HAL.out.mono ?_
        rintro e wi ⟨rfl, hbi⟩
        have hgi := Below.then HBM.out hbi (Nat.le_refl _)
        have HBI := Lib.hid (Below.then HBG.out hgi (Nat.le_refl _))
        have HTI := Lib.hid (HTG.out.go hgi)
        have HXI := Lib.hid (HXG.out.go hgi)
        clear hbi hgi HAL HBM HBG HTG HXG
        have HLG : Hid (∀ c : Nat → Nat, c wi.heap.size = 1 → Lgl (wi.alloc (.cells #[.int .i64 0, .slice none 0 0, .int .u64 0, .map none, .map none] 50)) c 1 wi.heap.size 0 [] []) := Lib.hid (fun c hc => Lgl.made 0 wi c 1 hc)
        have hsz : (wi.alloc (.cells #[.int .i64 0, .slice none 0 0, .int .u64 0, .map none, .map none] 50)).heap.size = wi.heap.size + 1 := by simp
        have HMG : Hid (∀ c : Nat → Nat, c (wi.alloc (.cells #[.int .i64 0, .slice none 0 0, .int .u64 0, .map none, .map none] 50)).heap.size = 2 → Mgb ((wi.alloc (.cells #[.int .i64 0, .slice none 0 0, .int .u64 0, .map none, .map none] 50)).alloc (.cells #[.int .i64 0, .slice none 0 0, .slice none 0 0] 38)) c 2 (wi.alloc (.cells #[.int .i64 0, .slice none 0 0, .int .u64 0, .map none, .map none] 50)).heap.size 0 [] []) := Lib.hid (fun c hc => Mgb.made 0 (wi.alloc (.cells #[.int .i64 0, .slice none 0 0, .int .u64 0, .map none, .map none] 50)) c 2 hc)
        rw [hsz] at HMG
        have HPP : Hid (PlE w eb tb wi.heap.size (wi.heap.size + 1) 0 T ⟨zp, zo, zh, za, ze⟩ [] [] [] [] j eb ⟨zp, zo, zh, za, ze⟩ ((wi.alloc (.cells #[.int .i64 0, .slice none 0 0, .int .u64 0, .map none, .map none] 50)).alloc (.cells #[.int .i64 0, .slice none 0 0, .slice none 0 0] 38))) := Lib.hid (by
          have hb1 : Below wi.heap.size wi (wi.alloc (.cells #[.int .i64 0, .slice none 0 0, .int .u64 0, .map none, .map none] 50)) := (Below.refl _ _).alloc (Nat.le_refl _) _
          have hb2 : Below (wi.alloc (.cells #[.int .i64 0, .slice none 0 0, .int .u64 0, .map none, .map none] 50)).heap.size (wi.alloc (.cells #[.int .i64 0, .slice none 0 0, .int .u64 0, .map none, .map none] 50)) ((wi.alloc (.cells #[.int .i64 0, .slice none 0 0, .int .u64 0, .map none, .map none] 50)).alloc (.cells #[.int .i64 0, .slice none 0 0, .slice none 0 0] 38)) := (Below.refl _ _).alloc (Nat.le_refl _) _
          have hb3 := Below.then hb1 hb2 (Nat.le_refl _)
          have h1 := HXI.out.lt
          have h2 := HTI.out.lt
          have h3 := HBI.out.size
          have h4 := HTB.out
          have h5 := HEW.out
          exact ⟨cpm wi.heap.size (wi.heap.size + 1), fun g hg => cpm_0 (by omega) (by omega), Below.then HBI.out hb3 (Nat.le_refl _), (HLG.out _ (cpm_p _ _)).kept (j := 3) (Kept.ofBelow hb2) (by omega) (fun _ _ => rfl), HMG.out _ (cpm_m (by omega)), HTI.out.go hb3, cpm_0 (by omega) (by omega), h4,
            HXI.out.go hb3, cpm_0 (by omega) (by omega), HXI.out.go hb3, cpm_0 (by omega) (by omega), h5, fun g _ e => cpm_1 e, fun g _ e => cpm_2 e⟩)
        clear HLG HMG HTI HXI HBI
        go_wp2
        generalize (wi.alloc (.cells #[.int .i64 0, .slice none 0 0, .int .u64 0, .map none, .map none] 50)).alloc (.cells #[.int .i64 0, .slice none 0 0, .slice none 0 0] 38) = wk at *
        generalize wi.heap.size = p at *
        have HD0 := Lib.hid (below_drewN (Below.refl wk.heap.size wk) 1)
        have HP0 := Lib.hid (PlE.go HPP.out HD0.out)
        have HS0 : Hid (EvB wk.drew eb zp zo zh za ze) := Lib.hid HP0.out.ev.1
        obtain ⟨E, hE⟩ : ∃ E, apE 0 [] ⟨zp, zo, zh, za, ze⟩ = E := ⟨_, rfl⟩
        obtain ⟨LL, hLL⟩ : ∃ LL, apL 0 [] ⟨zp, zo, zh, za, ze⟩ = LL := ⟨_, rfl⟩
        have hLn : LL.length ≤ 1 := by
          rw [← hLL]
          unfold apL
          split <;> simp
        refine wp_region_hand 17 (fun W => EvB W eb zp zo zh za ze) (by kernel_rfl) (by kernel_rfl) ?_
        rw [show Array.replicate 17 false = #[false, false, false, false, false, false, false, false, false, false, false, false, false, false, false, false, false] from rfl]
        have hHeld := HS0.out
        have HCL := Lib.hid (HAW.out wk.drew)
        refine held_one (i := 0) (by kernel_rfl) ?_
        refine held_callX (d := 85) rfl rfl (by rfl) rfl (by kernel_rfl) Try.func11 (by kernel_rfl) HCL.out ?_
        rintro e x1 ⟨rfl, hx1⟩
        have HP1 := Lib.hid (PlE.go HP0.out hx1)
        have HPA := Lib.hid (PlE.append HP1.out ⟨zp, zo, zh, za, ze⟩ (by simp) HWX.out)
        rw [hE, hLL] at HPA
        have HS1 : Hid (EvB x1 eb zp zo zh za ze) := Lib.hid HP1.out.ev.1
        clear hx1
        refine ⟨_, rfl, ?_⟩
        clear HCL hHeld
        have hHeld := HS1.out
        refine ⟨hHeld, ?_⟩
        simp only [Act.put, List.setIfInBounds_toArray, List.set_cons_zero, List.set_cons_succ]
        refine held_take (i := 1) (d := 86) (v := .bool true) rfl rfl (by kernel_rfl) (by kernel_rfl) (by kernel_rfl) (fun _ _ _ h => h) (by rfl) (fun W _ => run_move_is (.tmp 85) rfl rfl W) hHeld ?_
        simp only [Act.put, List.setIfInBounds_toArray, List.set_cons_zero, List.set_cons_succ]
        refine held_take (i := 2) (d := 87) (v := .pointer (some ⟨p, 0, none⟩)) rfl rfl (by kernel_rfl) (by kernel_rfl) (by kernel_rfl) (fun _ _ _ h => h) (by rfl) (fun W _ => run_move_is (.tmp 16) rfl rfl W) hHeld ?_
        simp only [Act.put, List.setIfInBounds_toArray, List.set_cons_zero, List.set_cons_succ]
        refine held_take (i := 3) (d := 88) (v := .agg #[.int .i64 zp, .int .i64 zo, .int .u64 zh, .int .u64 za, .int .i64 ze]) rfl rfl (by kernel_rfl) (by kernel_rfl) (by kernel_rfl) (fun _ _ _ h => h) (by rfl) (fun W hW => by obtain ⟨q0, q1, q2, q3, q4⟩ := EvB.cells hW; go_simp) hHeld ?_
        simp only [Act.put, List.setIfInBounds_toArray, List.set_cons_zero, List.set_cons_succ]
        refine held_take (i := 5) (d := 90) (v := .pointer (some ⟨p + 1, 0, none⟩)) rfl rfl (by kernel_rfl) (by kernel_rfl) (by kernel_rfl) (fun _ _ _ h => h) (by rfl) (fun W _ => run_move_is (.tmp 17) rfl rfl W) hHeld ?_
        simp only [Act.put, List.setIfInBounds_toArray, List.set_cons_zero, List.set_cons_succ]
        refine held_take (i := 6) (d := 91) (v := .agg #[.int .i64 zp, .int .i64 zo, .int .u64 zh, .int .u64 za, .int .i64 ze]) rfl rfl (by kernel_rfl) (by kernel_rfl) (by kernel_rfl) (fun _ _ _ h => h) (by rfl) (fun W hW => by obtain ⟨q0, q1, q2, q3, q4⟩ := EvB.cells hW; go_simp) hHeld ?_
        simp only [Act.put, List.setIfInBounds_toArray, List.set_cons_zero, List.set_cons_succ]
        have HCL := Lib.hid (HPA.out)
        refine held_one (i := 4) (by kernel_rfl) ?_
        refine held_callX (d := 89) rfl rfl (by rfl) rfl (by kernel_rfl) Try.func15 (by kernel_rfl) HCL.out ?_
        rintro e x2 ⟨rfl, hp2⟩
        have HPM := Lib.hid (PlE.appendM hp2 ⟨zp, zo, zh, za, ze⟩ (by simp))
        rw [hE, hLL] at HPM
        have HS2 : Hid (EvB x2 eb zp zo zh za ze) := Lib.hid hp2.ev.1
        clear hp2
        refine ⟨_, rfl, ?_⟩
        clear HCL hHeld
        have hHeld := HS2.out
        refine ⟨hHeld, ?_⟩
        simp only [Act.put, List.setIfInBounds_toArray, List.set_cons_zero, List.set_cons_succ]
        have HCL := Lib.hid (HPM.out)
        refine held_one (i := 7) (by kernel_rfl) ?_
        refine held_callX (d := 92) rfl rfl (by rfl) rfl (by kernel_rfl) Try.func16 (by kernel_rfl) HCL.out ?_
        rintro e x3 ⟨rfl, hp3⟩
        have HP3 := Lib.hid hp3
        have HAK := Lib.hid (PlE.alike hp3 a3 HRZ.out (by omega) (by simp))
        have HS3 : Hid (EvB x3 eb zp zo zh za ze) := Lib.hid hp3.ev.1
        clear hp3
        refine ⟨_, rfl, ?_⟩
        clear HCL hHeld
        have hHeld := HS3.out
        refine ⟨hHeld, ?_⟩
        simp only [Act.put, List.setIfInBounds_toArray, List.set_cons_zero, List.set_cons_succ]
        refine held_take (i := 8) (d := 93) (v := .bool true) rfl rfl (by kernel_rfl) (by kernel_rfl) (by kernel_rfl) (fun _ _ _ h => h) (by rfl) (fun W _ => by go_simp) hHeld ?_
        simp only [Act.put, List.setIfInBounds_toArray, List.set_cons_zero, List.set_cons_succ]
        refine held_take (i := 9) (d := 94) (v := .bool true) rfl rfl (by kernel_rfl) (by kernel_rfl) (by kernel_rfl) (fun _ _ _ h => h) (by rfl) (fun W _ => by go_simp) hHeld ?_
        simp only [Act.put, List.setIfInBounds_toArray, List.set_cons_zero, List.set_cons_succ]
        refine held_take (i := 10) (d := 95) (v := .bool true) rfl rfl (by kernel_rfl) (by kernel_rfl) (by kernel_rfl) (fun _ _ _ h => h) (by rfl) (fun W _ => run_move_is (.tmp 94) rfl rfl W) hHeld ?_
        simp only [Act.put, List.setIfInBounds_toArray, List.set_cons_zero, List.set_cons_succ]
        refine held_take (i := 11) (d := 96) (v := .pointer (some ⟨p, 0, none⟩)) rfl rfl (by kernel_rfl) (by kernel_rfl) (by kernel_rfl) (fun _ _ _ h => h) (by rfl) (fun W _ => run_move_is (.tmp 16) rfl rfl W) hHeld ?_
        simp only [Act.put, List.setIfInBounds_toArray, List.set_cons_zero, List.set_cons_succ]
        refine held_take (i := 12) (d := 97) (v := .pointer (some ⟨p + 1, 0, none⟩)) rfl rfl (by kernel_rfl) (by kernel_rfl) (by kernel_rfl) (fun _ _ _ h => h) (by rfl) (fun W _ => run_move_is (.tmp 17) rfl rfl W) hHeld ?_
        simp only [Act.put, List.setIfInBounds_toArray, List.set_cons_zero, List.set_cons_succ]
        refine held_take (i := 13) (d := 98) (v := .int .i64 a3) rfl rfl (by kernel_rfl) (by kernel_rfl) (by kernel_rfl) (fun _ _ _ h => h) (by rfl) (fun W _ => run_move_is (.tmp 3) rfl rfl W) hHeld ?_
        simp only [Act.put, List.setIfInBounds_toArray, List.set_cons_zero, List.set_cons_succ]
        have HCL := Lib.hid (HAK.out)
        refine held_one (i := 14) (by kernel_rfl) ?_
        refine held_callX (d := 99) rfl rfl (by rfl) rfl (by kernel_rfl) Try.func18 (by kernel_rfl) HCL.out ?_
        rintro e x4 ⟨rfl, hb4⟩
        have HFB := Lib.hid (PlE.bel (PlE.go HP3.out hb4))
        have HS4 : Hid (EvB x4 eb zp zo zh za ze) := Lib.hid (PlE.ev (PlE.go HP3.out hb4)).1
        clear hb4
        refine ⟨_, rfl, ?_⟩
        clear HCL hHeld
        have hHeld := HS4.out
        refine ⟨hHeld, ?_⟩
        simp only [Act.put, List.setIfInBounds_toArray, List.set_cons_zero, List.set_cons_succ]
        refine held_take (i := 15) (d := 100) (v := .bool true) rfl rfl (by kernel_rfl) (by kernel_rfl) (by kernel_rfl) (fun _ _ _ h => h) (by rfl) (fun W _ => by go_simp) hHeld ?_
        simp only [Act.put, List.setIfInBounds_toArray, List.set_cons_zero, List.set_cons_succ]
        refine held_take (i := 16) (d := 8) (v := .bool true) rfl rfl (by kernel_rfl) (by kernel_rfl) (by kernel_rfl) (fun _ _ _ h => h) (by rfl) (fun W _ => by go_simp) hHeld ?_
        simp only [Act.put, List.setIfInBounds_toArray, List.set_cons_zero, List.set_cons_succ]
        refine wpAnyH_done (by kernel_rfl) ?_ _
        clear hHeld
        clear HS0 HP0 HPP HD0 hE hLL
        go_wp2
        go_ret
        exact ⟨rfl, HFB.out⟩
    · have d0 : 0 ≤ a0 := by omega
      have d1 : ¬ a0 ≤ 65536 := by omega
      by_cases hn : nr < 2
      · have hn1 : ¬ 2 ≤ nr := by omega
        go_wp2_with fail
        first | rw [hnr] | skip
        refine (HOK.out (65535 + nr) w (by omega) (by omega)).mono ?_
        rintro e wb ⟨p2, rfl, hp, _, hbb⟩
        have HBB := Lib.hid (Below.then HBA.out hbb (Nat.le_refl _))
        clear hp hbb HBA
        go_wp2_with fail
        have HOC := Lib.hid (HOF.out wb HBB.out)
        clear HOF HOK HBD
        refine HOC.out.mono ?_
        rintro e wc ⟨tb, rfl, hts, htb, hbc⟩
        have HBC := Lib.hid (Below.then HBB.out hbc (Nat.le_refl _))
        have HEV := Lib.hid (event_any tb 0 T wc hts HFT.out (by omega))
        have HTB : Hid (w.heap.size ≤ tb) := Lib.hid (Nat.le_trans HBB.out.size htb)
        unfold EvM at HEV
        clear HOC hts htb hbc HBB
        go_wp2_with fail
        refine HEV.out.mono ?_
        rintro e wd ⟨zp, zo, zh, za, ze, j, _, hwh, hwa, _, rfl, htd, hod⟩
        have HWX : Hid (Word5 ⟨zp, zo, zh, za, ze⟩) := Lib.hid ⟨hwh, hwa⟩
        have HBD : Hid (Below w.heap.size w wd) := Lib.hid (HBC.out.trans (hod.below HTB.out HBC.out.size))
        have hbe : Below wd.heap.size wd (wd.alloc (.cells #[.int .i64 zp, .int .i64 zo, .int .u64 zh, .int .u64 za, .int .i64 ze] 27)) := (Below.refl _ _).alloc (Nat.le_refl _) _
        have HTE := Lib.hid (htd.go hbe)
        have HBE : Hid (Below w.heap.size w (wd.alloc (.cells #[.int .i64 zp, .int .i64 zo, .int .u64 zh, .int .u64 za, .int .i64 ze] 27))) := Lib.hid (Below.then HBD.out hbe (Nat.le_refl _))
        have hxe := EvB.new (w := wd) (p := zp) (o := zo) (h := zh) (a := za) (e := ze)
        have HXE := Lib.hid hxe
        obtain ⟨q0, q1, q2, q3, q4⟩ := hxe.cells
        have HEW : Hid (w.heap.size ≤ wd.heap.size) := Lib.hid HBD.out.size
        have HMI := Lib.hid (missN_any a3 (wd.alloc (.cells #[.int .i64 zp, .int .i64 zo, .int .u64 zh, .int .u64 za, .int .i64 ze] 27)))
        clear hwh hwa htd hod hbe hxe HEV HBC HBD
        go_wp2_with fail
        generalize wd.alloc (.cells #[.int .i64 zp, .int .i64 zo, .int .u64 zh, .int .u64 za, .int .i64 ze] 27) = we at *
        generalize wd.heap.size = eb at *
        refine HMI.out.mono ?_
        rintro e wf ⟨rfl, hwf⟩
        subst hwf
        have HAN := Lib.hid (appendN_any zp zo zh za ze wf)
        clear HMI
        go_wp2_with fail
        refine HAN.out.mono ?_
        rintro e wg ⟨rfl, hbg⟩
        have HBG := Lib.hid (Below.then HBE.out hbg (Nat.le_refl _))
        have HTG := Lib.hid (HTE.out.go hbg)
        have hxg := HXE.out.go hbg
        have HXG := Lib.hid hxg
        have HBM := Lib.hid ((Below.refl wg.heap.size wg).alloc (Nat.le_refl _) (.cells #[.int .i64 0, .slice none 0 0, .slice none 0 0] 38))
        have HAL := Lib.hid (alike17_any (w := wg.alloc (.cells #[.int .i64 0, .slice none 0 0, .slice none 0 0] 38)) (P := none) (cap := 0) (last := 0) (L := []) (M := []) (f := fun _ => 0) (g := fun _ => 0) (m := wg.heap.size) (z := a3) (.inr ⟨rfl, rfl, rfl, fun _ => rfl, fun _ => rfl⟩) (fun h => absurd rfl h) (Mgb.made 0 wg (fun _ => 0) 0 rfl).r Goods.nil (by simp) (by simp) HRZ.out rfl rfl)
        clear q0 q1 q2 q3 q4 HAN HBE HTE HXE hbg hxg
        go_wp2_with fail
        generalize wg.alloc (.cells #[.int .i64 0, .slice none 0 0, .slice none 0 0] 38) = wh at *
        refine HAL.out.mono ?_
        rintro e wi ⟨rfl, hbi⟩
        have hgi := Below.then HBM.out hbi (Nat.le_refl _)
        have HBI := Lib.hid (Below.then HBG.out hgi (Nat.le_refl _))
        have HTI := Lib.hid (HTG.out.go hgi)
        have HXI := Lib.hid (HXG.out.go hgi)
        clear hbi hgi HAL HBM HBG HTG HXG
        have HLG : Hid (∀ c : Nat → Nat, c wi.heap.size = 1 → Lgl (wi.alloc (.cells #[.int .i64 0, .slice none 0 0, .int .u64 0, .map none, .map none] 50)) c 1 wi.heap.size 0 [] []) := Lib.hid (fun c hc => Lgl.made 0 wi c 1 hc)
        have hsz : (wi.alloc (.cells #[.int .i64 0, .slice none 0 0, .int .u64 0, .map none, .map none] 50)).heap.size = wi.heap.size + 1 := by simp
        have HMG : Hid (∀ c : Nat → Nat, c (wi.alloc (.cells #[.int .i64 0, .slice none 0 0, .int .u64 0, .map none, .map none] 50)).heap.size = 2 → Mgb ((wi.alloc (.cells #[.int .i64 0, .slice none 0 0, .int .u64 0, .map none, .map none] 50)).alloc (.cells #[.int .i64 0, .slice none 0 0, .slice none 0 0] 38)) c 2 (wi.alloc (.cells #[.int .i64 0, .slice none 0 0, .int .u64 0, .map none, .map none] 50)).heap.size 0 [] []) := Lib.hid (fun c hc => Mgb.made 0 (wi.alloc (.cells #[.int .i64 0, .slice none 0 0, .int .u64 0, .map none, .map none] 50)) c 2 hc)
        rw [hsz] at HMG
        have HPP : Hid (PlE w eb tb wi.heap.size (wi.heap.size + 1) 0 T ⟨zp, zo, zh, za, ze⟩ [] [] [] [] j eb ⟨zp, zo, zh, za, ze⟩ ((wi.alloc (.cells #[.int .i64 0, .slice none 0 0, .int .u64 0, .map none, .map none] 50)).alloc (.cells #[.int .i64 0, .slice none 0 0, .slice none 0 0] 38))) := Lib.hid (by
          have hb1 : Below wi.heap.size wi (wi.alloc (.cells #[.int .i64 0, .slice none 0 0, .int .u64 0, .map none, .map none] 50)) := (Below.refl _ _).alloc (Nat.le_refl _) _
          have hb2 : Below (wi.alloc (.cells #[.int .i64 0, .slice none 0 0, .int .u64 0, .map none, .map none] 50)).heap.size (wi.alloc (.cells #[.int .i64 0, .slice none 0 0, .int .u64 0, .map none, .map none] 50)) ((wi.alloc (.cells #[.int .i64 0, .slice none 0 0, .int .u64 0, .map none, .map none] 50)).alloc (.cells #[.int .i64 0, .slice none 0 0, .slice none 0 0] 38)) := (Below.refl _ _).alloc (Nat.le_refl _) _
          have hb3 := Below.then hb1 hb2 (Nat.le_refl _)
          have h1 := HXI.out.lt
          have h2 := HTI.out.lt
          have h3 := HBI.out.size
          have h4 := HTB.out
          have h5 := HEW.out
          exact ⟨cpm wi.heap.size (wi.heap.size + 1), fun g hg => cpm_0 (by omega) (by omega), Below.then HBI.out hb3 (Nat.le_refl _), (HLG.out _ (cpm_p _ _)).kept (j := 3) (Kept.ofBelow hb2) (by omega) (fun _ _ => rfl), HMG.out _ (cpm_m (by omega)), HTI.out.go hb3, cpm_0 (by omega) (by omega), h4,
            HXI.out.go hb3, cpm_0 (by omega) (by omega), HXI.out.go hb3, cpm_0 (by omega) (by omega), h5, fun g _ e => cpm_1 e, fun g _ e => cpm_2 e⟩)
        clear HLG HMG HTI HXI HBI
        go_wp2
        generalize (wi.alloc (.cells #[.int .i64 0, .slice none 0 0, .int .u64 0, .map none, .map none] 50)).alloc (.cells #[.int .i64 0, .slice none 0 0, .slice none 0 0] 38) = wk at *
        generalize wi.heap.size = p at *
        have HD0 := Lib.hid (below_drewN (Below.refl wk.heap.size wk) 1)
        have HP0 := Lib.hid (PlE.go HPP.out HD0.out)
        have HS0 : Hid (EvB wk.drew eb zp zo zh za ze) := Lib.hid HP0.out.ev.1
        obtain ⟨E, hE⟩ : ∃ E, apE 0 [] ⟨zp, zo, zh, za, ze⟩ = E := ⟨_, rfl⟩
        obtain ⟨LL, hLL⟩ : ∃ LL, apL 0 [] ⟨zp, zo, zh, za, ze⟩ = LL := ⟨_, rfl⟩
        have hLn : LL.length ≤ 1 := by
          rw [← hLL]
          unfold apL
          split <;> simp
        refine wp_region_hand 17 (fun W => EvB W eb zp zo zh za ze) (by kernel_rfl) (by kernel_rfl) ?_
        rw [show Array.replicate 17 false = #[false, false, false, false, false, false, false, false, false, false, false, false, false, false, false, false, false] from rfl]
        have hHeld := HS0.out
        have HCL := Lib.hid (HAW.out wk.drew)
        refine held_one (i := 0) (by kernel_rfl) ?_
        refine held_callX (d := 85) rfl rfl (by rfl) rfl (by kernel_rfl) Try.func11 (by kernel_rfl) HCL.out ?_
        rintro e x1 ⟨rfl, hx1⟩
        have HP1 := Lib.hid (PlE.go HP0.out hx1)
        have HPA := Lib.hid (PlE.append HP1.out ⟨zp, zo, zh, za, ze⟩ (by simp) HWX.out)
        rw [hE, hLL] at HPA
        have HS1 : Hid (EvB x1 eb zp zo zh za ze) := Lib.hid HP1.out.ev.1
        clear hx1
        refine ⟨_, rfl, ?_⟩
        clear HCL hHeld
        have hHeld := HS1.out
        refine ⟨hHeld, ?_⟩
        simp only [Act.put, List.setIfInBounds_toArray, List.set_cons_zero, List.set_cons_succ]
        refine held_take (i := 1) (d := 86) (v := .bool true) rfl rfl (by kernel_rfl) (by kernel_rfl) (by kernel_rfl) (fun _ _ _ h => h) (by rfl) (fun W _ => run_move_is (.tmp 85) rfl rfl W) hHeld ?_
        simp only [Act.put, List.setIfInBounds_toArray, List.set_cons_zero, List.set_cons_succ]
        refine held_take (i := 2) (d := 87) (v := .pointer (some ⟨p, 0, none⟩)) rfl rfl (by kernel_rfl) (by kernel_rfl) (by kernel_rfl) (fun _ _ _ h => h) (by rfl) (fun W _ => run_move_is (.tmp 16) rfl rfl W) hHeld ?_
        simp only [Act.put, List.setIfInBounds_toArray, List.set_cons_zero, List.set_cons_succ]
        refine held_take (i := 3) (d := 88) (v := .agg #[.int .i64 zp, .int .i64 zo, .int .u64 zh, .int .u64 za, .int .i64 ze]) rfl rfl (by kernel_rfl) (by kernel_rfl) (by kernel_rfl) (fun _ _ _ h => h) (by rfl) (fun W hW => by obtain ⟨q0, q1, q2, q3, q4⟩ := EvB.cells hW; go_simp) hHeld ?_
        simp only [Act.put, List.setIfInBounds_toArray, List.set_cons_zero, List.set_cons_succ]
        refine held_take (i := 5) (d := 90) (v := .pointer (some ⟨p + 1, 0, none⟩)) rfl rfl (by kernel_rfl) (by kernel_rfl) (by kernel_rfl) (fun _ _ _ h => h) (by rfl) (fun W _ => run_move_is (.tmp 17) rfl rfl W) hHeld ?_
        simp only [Act.put, List.setIfInBounds_toArray, List.set_cons_zero, List.set_cons_succ]
        refine held_take (i := 6) (d := 91) (v := .agg #[.int .i64 zp, .int .i64 zo, .int .u64 zh, .int .u64 za, .int .i64 ze]) rfl rfl (by kernel_rfl) (by kernel_rfl) (by kernel_rfl) (fun _ _ _ h => h) (by rfl) (fun W hW => by obtain ⟨q0, q1, q2, q3, q4⟩ := EvB.cells hW; go_simp) hHeld ?_
        simp only [Act.put, List.setIfInBounds_toArray, List.set_cons_zero, List.set_cons_succ]
        have HCL := Lib.hid (HPA.out)
        refine held_one (i := 4) (by kernel_rfl) ?_
        refine held_callX (d := 89) rfl rfl (by rfl) rfl (by kernel_rfl) Try.func15 (by kernel_rfl) HCL.out ?_
        rintro e x2 ⟨rfl, hp2⟩
        have HPM := Lib.hid (PlE.appendM hp2 ⟨zp, zo, zh, za, ze⟩ (by simp))
        rw [hE, hLL] at HPM
        have HS2 : Hid (EvB x2 eb zp zo zh za ze) := Lib.hid hp2.ev.1
        clear hp2
        refine ⟨_, rfl, ?_⟩
        clear HCL hHeld
        have hHeld := HS2.out
        refine ⟨hHeld, ?_⟩
        simp only [Act.put, List.setIfInBounds_toArray, List.set_cons_zero, List.set_cons_succ]
        have HCL := Lib.hid (HPM.out)
        refine held_one (i := 7) (by kernel_rfl) ?_
        refine held_callX (d := 92) rfl rfl (by rfl) rfl (by kernel_rfl) Try.func16 (by kernel_rfl) HCL.out ?_
        rintro e x3 ⟨rfl, hp3⟩
        have HP3 := Lib.hid hp3
        have HAK := Lib.hid (PlE.alike hp3 a3 HRZ.out (by omega) (by simp))
        have HS3 : Hid (EvB x3 eb zp zo zh za ze) := Lib.hid hp3.ev.1
        clear hp3
        refine ⟨_, rfl, ?_⟩
        clear HCL hHeld
        have hHeld := HS3.out
        refine ⟨hHeld, ?_⟩
        simp only [Act.put, List.setIfInBounds_toArray, List.set_cons_zero, List.set_cons_succ]
        refine held_take (i := 8) (d := 93) (v := .bool true) rfl rfl (by kernel_rfl) (by kernel_rfl) (by kernel_rfl) (fun _ _ _ h => h) (by rfl) (fun W _ => by go_simp) hHeld ?_
        simp only [Act.put, List.setIfInBounds_toArray, List.set_cons_zero, List.set_cons_succ]
        refine held_take (i := 9) (d := 94) (v := .bool true) rfl rfl (by kernel_rfl) (by kernel_rfl) (by kernel_rfl) (fun _ _ _ h => h) (by rfl) (fun W _ => by go_simp) hHeld ?_
        simp only [Act.put, List.setIfInBounds_toArray, List.set_cons_zero, List.set_cons_succ]
        refine held_take (i := 10) (d := 95) (v := .bool true) rfl rfl (by kernel_rfl) (by kernel_rfl) (by kernel_rfl) (fun _ _ _ h => h) (by rfl) (fun W _ => run_move_is (.tmp 94) rfl rfl W) hHeld ?_
        simp only [Act.put, List.setIfInBounds_toArray, List.set_cons_zero, List.set_cons_succ]
        refine held_take (i := 11) (d := 96) (v := .pointer (some ⟨p, 0, none⟩)) rfl rfl (by kernel_rfl) (by kernel_rfl) (by kernel_rfl) (fun _ _ _ h => h) (by rfl) (fun W _ => run_move_is (.tmp 16) rfl rfl W) hHeld ?_
        simp only [Act.put, List.setIfInBounds_toArray, List.set_cons_zero, List.set_cons_succ]
        refine held_take (i := 12) (d := 97) (v := .pointer (some ⟨p + 1, 0, none⟩)) rfl rfl (by kernel_rfl) (by kernel_rfl) (by kernel_rfl) (fun _ _ _ h => h) (by rfl) (fun W _ => run_move_is (.tmp 17) rfl rfl W) hHeld ?_
        simp only [Act.put, List.setIfInBounds_toArray, List.set_cons_zero, List.set_cons_succ]
        refine held_take (i := 13) (d := 98) (v := .int .i64 a3) rfl rfl (by kernel_rfl) (by kernel_rfl) (by kernel_rfl) (fun _ _ _ h => h) (by rfl) (fun W _ => run_move_is (.tmp 3) rfl rfl W) hHeld ?_
        simp only [Act.put, List.setIfInBounds_toArray, List.set_cons_zero, List.set_cons_succ]
        have HCL := Lib.hid (HAK.out)
        refine held_one (i := 14) (by kernel_rfl) ?_
        refine held_callX (d := 99) rfl rfl (by rfl) rfl (by kernel_rfl) Try.func18 (by kernel_rfl) HCL.out ?_
        rintro e x4 ⟨rfl, hb4⟩
        have HFB := Lib.hid (PlE.bel (PlE.go HP3.out hb4))
        have HS4 : Hid (EvB x4 eb zp zo zh za ze) := Lib.hid (PlE.ev (PlE.go HP3.out hb4)).1
        clear hb4
        refine ⟨_, rfl, ?_⟩
        clear HCL hHeld
        have hHeld := HS4.out
        refine ⟨hHeld, ?_⟩
        simp only [Act.put, List.setIfInBounds_toArray, List.set_cons_zero, List.set_cons_succ]
        refine held_take (i := 15) (d := 100) (v := .bool true) rfl rfl (by kernel_rfl) (by kernel_rfl) (by kernel_rfl) (fun _ _ _ h => h) (by rfl) (fun W _ => by go_simp) hHeld ?_
        simp only [Act.put, List.setIfInBounds_toArray, List.set_cons_zero, List.set_cons_succ]
        refine held_take (i := 16) (d := 8) (v := .bool true) rfl rfl (by kernel_rfl) (by kernel_rfl) (by kernel_rfl) (fun _ _ _ h => h) (by rfl) (fun W _ => by go_simp) hHeld ?_
        simp only [Act.put, List.setIfInBounds_toArray, List.set_cons_zero, List.set_cons_succ]
        refine wpAnyH_done (by kernel_rfl) ?_ _
        clear hHeld
        clear HS0 HP0 HPP HD0 hE hLL
        go_wp2
        go_ret
        exact ⟨rfl, HFB.out⟩
      · have hn1 : 2 ≤ nr := by omega
        go_wp2_with fail
        first | rw [hnr] | skip
        refine (HBD.out (65535 + nr) w (by omega)).mono ?_
        rintro e wb ⟨rfl, hwb⟩
        have HBB : Hid (Below w.heap.size w wb) := Lib.hid (by rw [hwb]; exact Below.refl _ _)
        clear HBA hwb
        go_wp2_with fail
        have HOC := Lib.hid (HOF.out wb HBB.out)
        clear HOF HOK HBD
        refine HOC.out.mono ?_
        rintro e wc ⟨tb, rfl, hts, htb, hbc⟩
        have HBC := Lib.hid (Below.then HBB.out hbc (Nat.le_refl _))
        have HEV := Lib.hid (event_any tb 0 T wc hts HFT.out (by omega))
        have HTB : Hid (w.heap.size ≤ tb) := Lib.hid (Nat.le_trans HBB.out.size htb)
        unfold EvM at HEV
        clear HOC hts htb hbc HBB
        go_wp2_with fail
        refine HEV.out.mono ?_
        rintro e wd ⟨zp, zo, zh, za, ze, j, _, hwh, hwa, _, rfl, htd, hod⟩
        have HWX : Hid (Word5 ⟨zp, zo, zh, za, ze⟩) := Lib.hid ⟨hwh, hwa⟩
        have HBD : Hid (Below w.heap.size w wd) := Lib.hid (HBC.out.trans (hod.below HTB.out HBC.out.size))
        have hbe : Below wd.heap.size wd (wd.alloc (.cells #[.int .i64 zp, .int .i64 zo, .int .u64 zh, .int .u64 za, .int .i64 ze] 27)) := (Below.refl _ _).alloc (Nat.le_refl _) _
        have HTE := Lib.hid (htd.go hbe)
        have HBE : Hid (Below w.heap.size w (wd.alloc (.cells #[.int .i64 zp, .int .i64 zo, .int .u64 zh, .int .u64 za, .int .i64 ze] 27))) := Lib.hid (Below.then HBD.out hbe (Nat.le_refl _))
        have hxe := EvB.new (w := wd) (p := zp) (o := zo) (h := zh) (a := za) (e := ze)
        have HXE := Lib.hid hxe
        obtain ⟨q0, q1, q2, q3, q4⟩ := hxe.cells
        have HEW : Hid (w.heap.size ≤ wd.heap.size) := Lib.hid HBD.out.size
        have HMI := Lib.hid (missN_any a3 (wd.alloc (.cells #[.int .i64 zp, .int .i64 zo, .int .u64 zh, .int .u64 za, .int .i64 ze] 27)))
        clear hwh hwa htd hod hbe hxe HEV HBC HBD
        go_wp2_with fail
        generalize wd.alloc (.cells #[.int .i64 zp, .int .i64 zo, .int .u64 zh, .int .u64 za, .int .i64 ze] 27) = we at *
        generalize wd.heap.size = eb at *
        refine HMI.out.mono ?_
        rintro e wf ⟨rfl, hwf⟩
        subst hwf
        have HAN := Lib.hid (appendN_any zp zo zh za ze wf)
        clear HMI
        go_wp2_with fail
        refine HAN.out.mono ?_
        rintro e wg ⟨rfl, hbg⟩
        have HBG := Lib.hid (Below.then HBE.out hbg (Nat.le_refl _))
        have HTG := Lib.hid (HTE.out.go hbg)
        have hxg := HXE.out.go hbg
        have HXG := Lib.hid hxg
        have HBM := Lib.hid ((Below.refl wg.heap.size wg).alloc (Nat.le_refl _) (.cells #[.int .i64 0, .slice none 0 0, .slice none 0 0] 38))
        have HAL := Lib.hid (alike17_any (w := wg.alloc (.cells #[.int .i64 0, .slice none 0 0, .slice none 0 0] 38)) (P := none) (cap := 0) (last := 0) (L := []) (M := []) (f := fun _ => 0) (g := fun _ => 0) (m := wg.heap.size) (z := a3) (.inr ⟨rfl, rfl, rfl, fun _ => rfl, fun _ => rfl⟩) (fun h => absurd rfl h) (Mgb.made 0 wg (fun _ => 0) 0 rfl).r Goods.nil (by simp) (by simp) HRZ.out rfl rfl)
        clear q0 q1 q2 q3 q4 HAN HBE HTE HXE hbg hxg
        go_wp2_with fail
        generalize wg.alloc (.cells #[.int .i64 0, .slice none 0 0, .slice none 0 0] 38) = wh at *
        refine HAL.out.mono ?_
        rintro e wi ⟨rfl, hbi⟩
        have hgi := Below.then HBM.out hbi (Nat.le_refl _)
        have HBI := Lib.hid (Below.then HBG.out hgi (Nat.le_refl _))
        have HTI := Lib.hid (HTG.out.go hgi)
        have HXI := Lib.hid (HXG.out.go hgi)
        clear hbi hgi HAL HBM HBG HTG HXG
        have HLG : Hid (∀ c : Nat → Nat, c wi.heap.size = 1 → Lgl (wi.alloc (.cells #[.int .i64 0, .slice none 0 0, .int .u64 0, .map none, .map none] 50)) c 1 wi.heap.size 0 [] []) := Lib.hid (fun c hc => Lgl.made 0 wi c 1 hc)
        have hsz : (wi.alloc (.cells #[.int .i64 0, .slice none 0 0, .int .u64 0, .map none, .map none] 50)).heap.size = wi.heap.size + 1 := by simp
        have HMG : Hid (∀ c : Nat → Nat, c (wi.alloc (.cells #[.int .i64 0, .slice none 0 0, .int .u64 0, .map none, .map none] 50)).heap.size = 2 → Mgb ((wi.alloc (.cells #[.int .i64 0, .slice none 0 0, .int .u64 0, .map none, .map none] 50)).alloc (.cells #[.int .i64 0, .slice none 0 0, .slice none 0 0] 38)) c 2 (wi.alloc (.cells #[.int .i64 0, .slice none 0 0, .int .u64 0, .map none, .map none] 50)).heap.size 0 [] []) := Lib.hid (fun c hc => Mgb.made 0 (wi.alloc (.cells #[.int .i64 0, .slice none 0 0, .int .u64 0, .map none, .map none] 50)) c 2 hc)
        rw [hsz] at HMG
        have HPP : Hid (PlE w eb tb wi.heap.size (wi.heap.size + 1) 0 T ⟨zp, zo, zh, za, ze⟩ [] [] [] [] j eb ⟨zp, zo, zh, za, ze⟩ ((wi.alloc (.cells #[.int .i64 0, .slice none 0 0, .int .u64 0, .map none, .map none] 50)).alloc (.cells #[.int .i64 0, .slice none 0 0, .slice none 0 0] 38))) := Lib.hid (by
          have hb1 : Below wi.heap.size wi (wi.alloc (.cells #[.int .i64 0, .slice none 0 0, .int .u64 0, .map none, .map none] 50)) := (Below.refl _ _).alloc (Nat.le_refl _) _
          have hb2 : Below (wi.alloc (.cells #[.int .i64 0, .slice none 0 0, .int .u64 0, .map none, .map none] 50)).heap.size (wi.alloc (.cells #[.int .i64 0, .slice none 0 0, .int .u64 0, .map none, .map none] 50)) ((wi.alloc (.cells #[.int .i64 0, .slice none 0 0, .int .u64 0, .map none, .map none] 50)).alloc (.cells #[.int .i64 0, .slice none 0 0, .slice none 0 0] 38)) := (Below.refl _ _).alloc (Nat.le_refl _) _
          have hb3 := Below.then hb1 hb2 (Nat.le_refl _)
          have h1 := HXI.out.lt
          have h2 := HTI.out.lt
          have h3 := HBI.out.size
          have h4 := HTB.out
          have h5 := HEW.out
          exact ⟨cpm wi.heap.size (wi.heap.size + 1), fun g hg => cpm_0 (by omega) (by omega), Below.then HBI.out hb3 (Nat.le_refl _), (HLG.out _ (cpm_p _ _)).kept (j := 3) (Kept.ofBelow hb2) (by omega) (fun _ _ => rfl), HMG.out _ (cpm_m (by omega)), HTI.out.go hb3, cpm_0 (by omega) (by omega), h4,
            HXI.out.go hb3, cpm_0 (by omega) (by omega), HXI.out.go hb3, cpm_0 (by omega) (by omega), h5, fun g _ e => cpm_1 e, fun g _ e => cpm_2 e⟩)
        clear HLG HMG HTI HXI HBI
        go_wp2
        generalize (wi.alloc (.cells #[.int .i64 0, .slice none 0 0, .int .u64 0, .map none, .map none] 50)).alloc (.cells #[.int .i64 0, .slice none 0 0, .slice none 0 0] 38) = wk at *
        generalize wi.heap.size = p at *
        have HD0 := Lib.hid (below_drewN (Below.refl wk.heap.size wk) 1)
        have HP0 := Lib.hid (PlE.go HPP.out HD0.out)
        have HS0 : Hid (EvB wk.drew eb zp zo zh za ze) := Lib.hid HP0.out.ev.1
        obtain ⟨E, hE⟩ : ∃ E, apE 0 [] ⟨zp, zo, zh, za, ze⟩ = E := ⟨_, rfl⟩
        obtain ⟨LL, hLL⟩ : ∃ LL, apL 0 [] ⟨zp, zo, zh, za, ze⟩ = LL := ⟨_, rfl⟩
        have hLn : LL.length ≤ 1 := by
          rw [← hLL]
          unfold apL
          split <;> simp
        refine wp_region_hand 17 (fun W => EvB W eb zp zo zh za ze) (by kernel_rfl) (by kernel_rfl) ?_
        rw [show Array.replicate 17 false = #[false, false, false, false, false, false, false, false, false, false, false, false, false, false, false, false, false] from rfl]
        have hHeld := HS0.out
        have HCL := Lib.hid (HAW.out wk.drew)
        refine held_one (i := 0) (by kernel_rfl) ?_
        refine held_callX (d := 85) rfl rfl (by rfl) rfl (by kernel_rfl) Try.func11 (by kernel_rfl) HCL.out ?_
        rintro e x1 ⟨rfl, hx1⟩
        have HP1 := Lib.hid (PlE.go HP0.out hx1)
        have HPA := Lib.hid (PlE.append HP1.out ⟨zp, zo, zh, za, ze⟩ (by simp) HWX.out)
        rw [hE, hLL] at HPA
        have HS1 : Hid (EvB x1 eb zp zo zh za ze) := Lib.hid HP1.out.ev.1
        clear hx1
        refine ⟨_, rfl, ?_⟩
        clear HCL hHeld
        have hHeld := HS1.out
        refine ⟨hHeld, ?_⟩
        simp only [Act.put, List.setIfInBounds_toArray, List.set_cons_zero, List.set_cons_succ]
        refine held_take (i := 1) (d := 86) (v := .bool true) rfl rfl (by kernel_rfl) (by kernel_rfl) (by kernel_rfl) (fun _ _ _ h => h) (by rfl) (fun W _ => run_move_is (.tmp 85) rfl rfl W) hHeld ?_
        simp only [Act.put, List.setIfInBounds_toArray, List.set_cons_zero, List.set_cons_succ]
        refine held_take (i := 2) (d := 87) (v := .pointer (some ⟨p, 0, none⟩)) rfl rfl (by kernel_rfl) (by kernel_rfl) (by kernel_rfl) (fun _ _ _ h => h) (by rfl) (fun W _ => run_move_is (.tmp 16) rfl rfl W) hHeld ?_
        simp only [Act.put, List.setIfInBounds_toArray, List.set_cons_zero, List.set_cons_succ]
        refine held_take (i := 3) (d := 88) (v := .agg #[.int .i64 zp, .int .i64 zo, .int .u64 zh, .int .u64 za, .int .i64 ze]) rfl rfl (by kernel_rfl) (by kernel_rfl) (by kernel_rfl) (fun _ _ _ h => h) (by rfl) (fun W hW => by obtain ⟨q0, q1, q2, q3, q4⟩ := EvB.cells hW; go_simp) hHeld ?_
        simp only [Act.put, List.setIfInBounds_toArray, List.set_cons_zero, List.set_cons_succ]
        refine held_take (i := 5) (d := 90) (v := .pointer (some ⟨p + 1, 0, none⟩)) rfl rfl (by kernel_rfl) (by kernel_rfl) (by kernel_rfl) (fun _ _ _ h => h) (by rfl) (fun W _ => run_move_is (.tmp 17) rfl rfl W) hHeld ?_
        simp only [Act.put, List.setIfInBounds_toArray, List.set_cons_zero, List.set_cons_succ]
        refine held_take (i := 6) (d := 91) (v := .agg #[.int .i64 zp, .int .i64 zo, .int .u64 zh, .int .u64 za, .int .i64 ze]) rfl rfl (by kernel_rfl) (by kernel_rfl) (by kernel_rfl) (fun _ _ _ h => h) (by rfl) (fun W hW => by obtain ⟨q0, q1, q2, q3, q4⟩ := EvB.cells hW; go_simp) hHeld ?_
        simp only [Act.put, List.setIfInBounds_toArray, List.set_cons_zero, List.set_cons_succ]
        have HCL := Lib.hid (HPA.out)
        refine held_one (i := 4) (by kernel_rfl) ?_
        refine held_callX (d := 89) rfl rfl (by rfl) rfl (by kernel_rfl) Try.func15 (by kernel_rfl) HCL.out ?_
        rintro e x2 ⟨rfl, hp2⟩
        have HPM := Lib.hid (PlE.appendM hp2 ⟨zp, zo, zh, za, ze⟩ (by simp))
        rw [hE, hLL] at HPM
        have HS2 : Hid (EvB x2 eb zp zo zh za ze) := Lib.hid hp2.ev.1
        clear hp2
        refine ⟨_, rfl, ?_⟩
        clear HCL hHeld
        have hHeld := HS2.out
        refine ⟨hHeld, ?_⟩
        simp only [Act.put, List.setIfInBounds_toArray, List.set_cons_zero, List.set_cons_succ]
        have HCL := Lib.hid (HPM.out)
        refine held_one (i := 7) (by kernel_rfl) ?_
        refine held_callX (d := 92) rfl rfl (by rfl) rfl (by kernel_rfl) Try.func16 (by kernel_rfl) HCL.out ?_
        rintro e x3 ⟨rfl, hp3⟩
        have HP3 := Lib.hid hp3
        have HAK := Lib.hid (PlE.alike hp3 a3 HRZ.out (by omega) (by simp))
        have HS3 : Hid (EvB x3 eb zp zo zh za ze) := Lib.hid hp3.ev.1
        clear hp3
        refine ⟨_, rfl, ?_⟩
        clear HCL hHeld
        have hHeld := HS3.out
        refine ⟨hHeld, ?_⟩
        simp only [Act.put, List.setIfInBounds_toArray, List.set_cons_zero, List.set_cons_succ]
        refine held_take (i := 8) (d := 93) (v := .bool true) rfl rfl (by kernel_rfl) (by kernel_rfl) (by kernel_rfl) (fun _ _ _ h => h) (by rfl) (fun W _ => by go_simp) hHeld ?_
        simp only [Act.put, List.setIfInBounds_toArray, List.set_cons_zero, List.set_cons_succ]
        refine held_take (i := 9) (d := 94) (v := .bool true) rfl rfl (by kernel_rfl) (by kernel_rfl) (by kernel_rfl) (fun _ _ _ h => h) (by rfl) (fun W _ => by go_simp) hHeld ?_
        simp only [Act.put, List.setIfInBounds_toArray, List.set_cons_zero, List.set_cons_succ]
        refine held_take (i := 10) (d := 95) (v := .bool true) rfl rfl (by kernel_rfl) (by kernel_rfl) (by kernel_rfl) (fun _ _ _ h => h) (by rfl) (fun W _ => run_move_is (.tmp 94) rfl rfl W) hHeld ?_
        simp only [Act.put, List.setIfInBounds_toArray, List.set_cons_zero, List.set_cons_succ]
        refine held_take (i := 11) (d := 96) (v := .pointer (some ⟨p, 0, none⟩)) rfl rfl (by kernel_rfl) (by kernel_rfl) (by kernel_rfl) (fun _ _ _ h => h) (by rfl) (fun W _ => run_move_is (.tmp 16) rfl rfl W) hHeld ?_
        simp only [Act.put, List.setIfInBounds_toArray, List.set_cons_zero, List.set_cons_succ]
        refine held_take (i := 12) (d := 97) (v := .pointer (some ⟨p + 1, 0, none⟩)) rfl rfl (by kernel_rfl) (by kernel_rfl) (by kernel_rfl) (fun _ _ _ h => h) (by rfl) (fun W _ => run_move_is (.tmp 17) rfl rfl W) hHeld ?_
        simp only [Act.put, List.setIfInBounds_toArray, List.set_cons_zero, List.set_cons_succ]
        refine held_take (i := 13) (d := 98) (v := .int .i64 a3) rfl rfl (by kernel_rfl) (by kernel_rfl) (by kernel_rfl) (fun _ _ _ h => h) (by rfl) (fun W _ => run_move_is (.tmp 3) rfl rfl W) hHeld ?_
        simp only [Act.put, List.setIfInBounds_toArray, List.set_cons_zero, List.set_cons_succ]
        have HCL := Lib.hid (HAK.out)
        refine held_one (i := 14) (by kernel_rfl) ?_
        refine held_callX (d := 99) rfl rfl (by rfl) rfl (by kernel_rfl) Try.func18 (by kernel_rfl) HCL.out ?_
        rintro e x4 ⟨rfl, hb4⟩
        have HFB := Lib.hid (PlE.bel (PlE.go HP3.out hb4))
        have HS4 : Hid (EvB x4 eb zp zo zh za ze) := Lib.hid (PlE.ev (PlE.go HP3.out hb4)).1
        clear hb4
        refine ⟨_, rfl, ?_⟩
        clear HCL hHeld
        have hHeld := HS4.out
        refine ⟨hHeld, ?_⟩
        simp only [Act.put, List.setIfInBounds_toArray, List.set_cons_zero, List.set_cons_succ]
        refine held_take (i := 15) (d := 100) (v := .bool true) rfl rfl (by kernel_rfl) (by kernel_rfl) (by kernel_rfl) (fun _ _ _ h => h) (by rfl) (fun W _ => by go_simp) hHeld ?_
        simp only [Act.put, List.setIfInBounds_toArray, List.set_cons_zero, List.set_cons_succ]
        refine held_take (i := 16) (d := 8) (v := .bool true) rfl rfl (by kernel_rfl) (by kernel_rfl) (by kernel_rfl) (fun _ _ _ h => h) (by rfl) (fun W _ => by go_simp) hHeld ?_
        simp only [Act.put, List.setIfInBounds_toArray, List.set_cons_zero, List.set_cons_succ]
        refine wpAnyH_done (by kernel_rfl) ?_ _
        clear hHeld
        clear HS0 HP0 HPP HD0 hE hLL
        go_wp2
        go_ret
        exact ⟨rfl, HFB.out⟩
end Go.Proofs.Ytlgoiccekgjhnaa
