/-
  The law AuditCapacity as a walk over any log that keeps the bundle. Conditions: the bundle.
-/
import Derived.Test.YtlgoiccekgjhnaaAgwLaw
namespace Go.Proofs.Ytlgoiccekgjhnaa
open Go.ChangeShapes Go.WideShapes Go.ChangeAt Go.RowKit
set_option linter.unusedVariables false
set_option linter.unusedSimpArgs false
set_option maxHeartbeats 8000000
set_option maxRecDepth 100000

theorem apE_set {cap pl : Int} {L : List Ev5} (h1 : 1 ≤ pl) (h2 : pl ≤ 64) : apE cap L ⟨pl, 4, 0, 0, 0⟩ = if cap ≤ (rcN L pl : Int) then 19 else 0 := by
  have hc : chkV pl 4 0 = 0 := chk_is ⟨h1, h2, .inl ⟨by omega, by omega⟩, by omega, by omega⟩
  unfold apE
  rw [if_neg (by simp only; omega)]
  have ha : auc ⟨pl, 4, 0, 0, 0⟩ := ⟨by simp only; omega, by simp only; omega⟩
  simp only
  by_cases h : cap ≤ (rcN L pl : Int)
  · rw [if_pos ⟨ha, h⟩, if_pos h]
  · rw [if_neg (fun h' => h h'.2), if_neg h]
theorem apE_mark {cap pl o : Int} {L : List Ev5} (h1 : 1 ≤ pl) (h2 : pl ≤ 64) (ho : o = 32 ∨ o = 33) : apE cap L ⟨pl, o, 0, 0, 0⟩ = 0 := by
  have hc : chkV pl o 0 = 0 := chk_is ⟨h1, h2, .inr ho, by omega, by omega⟩
  unfold apE
  rw [if_neg (by simp only; omega), if_neg (fun h => ?_)]
  have h3 := h.1
  unfold auc at h3
  simp only at h3
  omega
theorem rcN_set {pl : Int} {L : List Ev5} : rcN (L ++ [⟨pl, 4, 0, 0, 0⟩]) pl = rcN L pl + 1 := by
  rw [rcN_app, rcN_one, if_pos ⟨rfl, by simp only; omega, by simp only; omega⟩]
theorem rcN_mark {pl o : Int} {L : List Ev5} (ho : o = 32 ∨ o = 33) : rcN (L ++ [⟨pl, o, 0, 0, 0⟩]) pl = rcN L pl := by
  rw [rcN_app, rcN_one, if_neg (fun h => ?_)]
  · rfl
  · have h3 := h.2
    unfold auc at h3
    simp only at h3
    omega
section
variable {Lg : LgP} (C : AuC Lg)
include C
theorem auditCapacity_all (a0 : Int) (a1 : Option Addr) (len1 cap1 : Nat) (z1 : List Int) (a2 : Int) (w : World) (w0 : (Lit.int .u8 a0).wf = true) (w1 : IsRow .u16 w a1 len1 cap1 z1) (w2 : (Lit.int .u8 a2).wf = true) :
    Calls Try.prog 8 #[.int .u8 a0, .slice a1 len1 cap1, .int .u8 a2] w fun e w' => e = .returned (.bool true) ∧ Below w.heap.size w w' := by
  obtain ⟨hrow, hfit⟩ := w1.row
  generalize z1.take len1 = T0 at hrow hfit
  have HOF := Lib.hid (fun W (hW : Below w.heap.size w W) => of_any a1 len1 cap1 T0 160 W ((hrow.below hW).more hW.size) (by omega))
  have HFT := Lib.hid (hfit.take 160)
  have htl : (T0.take 160).length ≤ 900 := by rw [List.length_take]; omega
  generalize T0.take 160 = T at *
  obtain ⟨b0, b1⟩ := byte_bd w0
  obtain ⟨d0, d1⟩ := byte_bd w2
  have s0 : 0 ≤ a0 % 6 := Int.emod_nonneg _ (by omega)
  have s1 : a0 % 6 < 6 := Int.emod_lt_of_pos _ (by omega)
  have s2 : 0 ≤ a2 % 3 := Int.emod_nonneg _ (by omega)
  have s3 : a2 % 3 < 3 := Int.emod_lt_of_pos _ (by omega)
  have e4 : IntKind.i64.wrap (4 + a2 % 3) = 4 + a2 % 3 := IntWalk.i64_in _ (by omega)
  obtain ⟨nn, hcap⟩ := Int.eq_ofNat_of_zero_le s0
  obtain ⟨pl, hpl⟩ : ∃ pl, 4 + a2 % 3 = pl := ⟨_, rfl⟩
  have hp4 : 4 ≤ pl := by omega
  have hp6 : pl ≤ 6 := by omega
  have hn5 : nn ≤ 5 := by omega
  have HN := Lib.hid (C.newOk (nn : Int) w (fun _ => 0) 1 (by omega) (by omega))
  have HTL := Lib.hid htl
  rw [hpl] at e4
  clear w0 w1 w2 hrow hfit htl s0 s1
  go_enter Try.func8, Try.ntmps8
  go_wp2_with fail
  clear s2 s3 e4
  refine HN.out.mono ?_
  rintro e w1 ⟨p, rfl, hp, hL, hb⟩
  have h1 : Al Lg w (rc (fun _ => 0) w.heap.size 1) p (nn : Int) [] [] w1 := ⟨fun g hg => rc_old hg, hb, hL⟩
  have HA1 := Lib.hid h1
  have HOC := Lib.hid (HOF.out w1 hb)
  clear HN hp hL hb h1 HOF
  go_wp2_with fail
  refine HOC.out.mono ?_
  rintro e w2 ⟨b, rfl, hts2, hge, hb2⟩
  have HEV := Lib.hid (evs_made3 (w0 := w1) (most := 24) hts2 hge hb2 HFT.out HTL.out (by omega))
  clear hts2 hb2 HOC hge
  go_wp2_with fail
  refine HEV.out.mono ?_
  rintro e w3 ⟨v3, l, rfl, ⟨hgl, hg3⟩, hll, hov, hb3⟩
  obtain ⟨c3, hA3, hold3, hnew3⟩ := Al.go C HA1.out hb3
  obtain ⟨A, n, cp, rfl, hk3⟩ := hov.shape
  have hcapn := hk3.cap
  have hsmn := hk3.small
  have hlen := hk3.len
  unfold maxLen at hsmn
  have HST : Hid (∃ c L, Al Lg w c p (nn : Int) L [] w3 ∧ OwD 0 w.heap.size ev5 27 w3 c (.slice A n cp) l ∧ rcN L pl = 0 ∧ L.length ≤ 0) :=
    Lib.hid ⟨c3, [], hA3, ⟨hov.down (by have := HA1.out.2.1.size; omega), fun g hg => hnew3 g (hov.ge hg).1⟩, rfl, Nat.le_refl _⟩
  have HGL := Lib.hid hgl
  have HG3 := Lib.hid hg3
  clear HEV hgl hg3 hov hb3 hA3 hold3 hnew3 HA1 hk3
  go_wp2
  go_loopw [34] (fun kv wr => ∃ i : Nat, i ≤ n ∧ kv = .int .i64 i ∧ Hid (∃ c L, Al Lg w c p (nn : Int) L [] wr ∧ OwD 0 w.heap.size ev5 27 wr c (.slice A n cp) l ∧ rcN L pl = 0 ∧ L.length ≤ i)) (fun kv _ => n - (intOf kv).toNat)
  case atStart => exact ⟨0, Nat.zero_le _, rfl, HST⟩
  case round =>
    obtain ⟨i, hi, rfl, hh⟩ := hrel
    obtain ⟨c, L, hA, hE, hG, hLl⟩ := hh.out
    clear HST
    by_cases hin : i < n
    · have hi1 : (i : Int) < (n : Int) := by omega
      obtain ⟨bb, ob, x, hx, rfl, hbb, g0, g1, g2, g3, g4⟩ := hE.kws.ev_ hin
      have hgx := HGL.out x (List.mem_of_getElem? hx)
      have hx3 := HG3.out x (List.mem_of_getElem? hx)
      obtain ⟨xp, xo, xh, xa, xe⟩ := x
      simp only at g0 g1 g2 g3 g4 hx3
      have hb4 : Below wr.heap.size wr (wr.alloc (.cells #[.int .i64 xp, .int .i64 xo, .int .u64 xh, .int .u64 xa, .int .i64 xe] 27)) := (Below.refl _ _).alloc (Nat.le_refl _) _
      obtain ⟨c4, hA4, hold4, hnew4⟩ := Al.go C hA hb4
      have HE4 := Lib.hid (hE.go hb4 hold4)
      have hx4 := EvB.new (w := wr) (p := xp) (o := xo) (h := xh) (a := xa) (e := xe)
      obtain ⟨q0, q1, q2, q3, q4⟩ := hx4.cells
      have HAP := Lib.hid (Al.append C ⟨xp, xo, xh, xa, xe⟩ hA4 (by omega) hgx.2)
      have HGG : Hid (rcN (apL (nn : Int) L ⟨xp, xo, xh, xa, xe⟩) pl = 0) := Lib.hid (by rw [apL_other (by simp only; omega)]; exact hG)
      have HLL : Hid ((apL (nn : Int) L ⟨xp, xo, xh, xa, xe⟩).length ≤ i + 1) := Lib.hid (by
        unfold apL
        split
        · simp; omega
        · omega)
      generalize apE (nn : Int) L ⟨xp, xo, xh, xa, xe⟩ = E at *
      generalize apL (nn : Int) L ⟨xp, xo, xh, xa, xe⟩ = LL at *
      clear hh hA hE hG hx hbb hgx hx3 hb4 hA4 hold4 hnew4 hx4
      go_wp2_with fail
      generalize wr.alloc (.cells #[.int .i64 xp, .int .i64 xo, .int .u64 xh, .int .u64 xa, .int .i64 xe] 27) = w4 at *
      generalize wr.heap.size = tr at *
      refine HAP.out.mono ?_
      rintro e w5 ⟨rfl, c5, hA5, hk5, hold5⟩
      have HF : Hid (∃ c L', Al Lg w c p (nn : Int) L' [] w5 ∧ OwD 0 w.heap.size ev5 27 w5 c (.slice (some ⟨bb, ob, none⟩) n cp) l ∧ rcN L' pl = 0 ∧ L'.length ≤ i + 1) := Lib.hid ⟨c5, LL, hA5, HE4.out.kept hk5 (by omega) hold5, HGG.out, HLL.out⟩
      clear HAP HE4 hA5 hk5 hold5 HGG HLL q0 q1 q2 q3 q4 g0 g1 g2 g3 g4
      go_wp2
      go_roundw
      case rel => exact ⟨i + 1, by omega, by go_num, HF⟩
      case measure => simp [intOf]; omega
    · obtain rfl : i = n := by omega
      have hd : ¬ (i : Int) < (i : Int) := by omega
      have HS2 : Hid (∃ c L, Al Lg w c p (nn : Int) L [] wr ∧ rcN L pl = min 0 nn ∧ L.length ≤ 24 + 0) := Lib.hid ⟨c, L, hA, by rw [hG]; simp, by omega⟩
      clear hh hA hE hG HGL HG3
      go_wp2
      rename World => wx
      go_loopw [13] (fun kv wr => ∃ j : Nat, j ≤ nn + 2 ∧ kv = .int .i64 j ∧ Hid (∃ c L, Al Lg w c p (nn : Int) L [] wr ∧ rcN L pl = min j nn ∧ L.length ≤ 24 + j)) (fun kv _ => nn + 2 - (intOf kv).toNat)
      case atStart => exact ⟨0, Nat.zero_le _, rfl, HS2⟩
      case round =>
        obtain ⟨j, hj, rfl, hh⟩ := hrel
        obtain ⟨c', L', hA', hR, hLl'⟩ := hh.out
        have e2 : IntKind.i64.wrap ((nn : Int) + 2) = (nn : Int) + 2 := IntWalk.i64_in _ (by omega)
        clear HS2
        by_cases hjn : j < nn + 2
        · have hj1 : (j : Int) < (nn : Int) + 2 := by omega
          have HRM := Lib.hid (C.room pl hA'.2.2 (by omega) (Ri.of (by omega)))
          have HAP : Hid (∀ W, Below wr.heap.size wr W → Calls Try.prog 15 #[.pointer (some ⟨p, 0, none⟩), evA ⟨pl, 4, 0, 0, 0⟩] W fun e w' => e = .returned (.int .i64 (apE (nn : Int) L' ⟨pl, 4, 0, 0, 0⟩)) ∧ ∃ c', Al Lg w c' p (nn : Int) (apL (nn : Int) L' ⟨pl, 4, 0, 0, 0⟩) [] w') := Lib.hid (fun W hW => by
            obtain ⟨c9, h9, _, _⟩ := Al.go C hA' hW
            exact (Al.append C ⟨pl, 4, 0, 0, 0⟩ h9 (by omega) ⟨⟨by simp only; omega, by simp only; omega⟩, by simp only; omega, by simp only; omega⟩).mono fun e w' ⟨he, c', h, _⟩ => ⟨he, c', h⟩)
          have HAE := Lib.hid (apE_set (cap := (nn : Int)) (L := L') (show 1 ≤ pl by omega) (by omega))
          by_cases hjc : j < nn
          · have hjc' : (j : Int) < (nn : Int) := by omega
            have hr1 : decide ((rcN L' pl : Int) < (nn : Int)) = true := decide_eq_true (by rw [hR]; omega)
            have hae : apE (nn : Int) L' ⟨pl, 4, 0, 0, 0⟩ = 0 := by rw [HAE.out, if_neg (by rw [hR]; omega)]
            have hal := apL_ok hae
            rw [hr1] at HRM
            rw [hae, hal] at HAP
            have HRN : Hid (rcN (L' ++ [⟨pl, 4, 0, 0, 0⟩]) pl = min (j + 1) nn) := Lib.hid (by rw [rcN_set, hR]; omega)
            have HLN : Hid ((L' ++ [⟨pl, 4, 0, 0, 0⟩] : List Ev5).length ≤ 24 + (j + 1)) := Lib.hid (by simp; omega)
            clear hh hA' hR hr1 hae hal HAE
            go_wp2_with fail
            refine HRM.out.mono ?_
            rintro e w5 ⟨rfl, hb5⟩
            have HC5 := Lib.hid (HAP.out w5 hb5)
            clear hb5 HRM HAP
            go_wp2_with fail
            refine HC5.out.mono ?_
            rintro e w6 ⟨rfl, c6, hA6⟩
            have HF : Hid (∃ c L, Al Lg w c p (nn : Int) L [] w6 ∧ rcN L pl = min (j + 1) nn ∧ L.length ≤ 24 + (j + 1)) := Lib.hid ⟨c6, _, hA6, HRN.out, HLN.out⟩
            clear hA6 HC5 HRN HLN
            go_wp2
            go_roundw
            case rel => exact ⟨j + 1, by omega, by go_num, HF⟩
            case measure => simp [intOf]; omega
          · have hjc' : ¬ (j : Int) < (nn : Int) := by omega
            have hr1 : decide ((rcN L' pl : Int) < (nn : Int)) = false := decide_eq_false (by rw [hR]; omega)
            have hae : apE (nn : Int) L' ⟨pl, 4, 0, 0, 0⟩ = 19 := by rw [HAE.out, if_pos (by rw [hR]; omega)]
            have hal := apL_no (show apE (nn : Int) L' ⟨pl, 4, 0, 0, 0⟩ ≠ 0 by rw [hae]; omega)
            rw [hr1] at HRM
            rw [hae, hal] at HAP
            have HRN : Hid (rcN L' pl = min (j + 1) nn) := Lib.hid (by rw [hR]; omega)
            clear hh hA' hR hr1 hae hal HAE
            go_wp2_with fail
            refine HRM.out.mono ?_
            rintro e w5 ⟨rfl, hb5⟩
            have HC5 := Lib.hid (HAP.out w5 hb5)
            clear hb5 HRM HAP
            go_wp2_with fail
            refine HC5.out.mono ?_
            rintro e w6 ⟨rfl, c6, hA6⟩
            have HF : Hid (∃ c L, Al Lg w c p (nn : Int) L [] w6 ∧ rcN L pl = min (j + 1) nn ∧ L.length ≤ 24 + (j + 1)) := Lib.hid ⟨c6, _, hA6, HRN.out, by omega⟩
            clear hA6 HC5 HRN
            go_wp2
            go_roundw
            case rel => exact ⟨j + 1, by omega, by go_num, HF⟩
            case measure => simp [intOf]; omega
        · obtain rfl : j = nn + 2 := by omega
          have hd2 : ¬ ((nn + 2 : Nat) : Int) < (nn : Int) + 2 := by omega
          have hrn : rcN L' pl = nn := by rw [hR]; omega
          have HRN := Lib.hid hrn
          have HAL := Lib.hid hA'
          have hw : ∀ o : Int, Word5 ⟨pl, o, 0, 0, 0⟩ := fun o => ⟨⟨by simp only; omega, by simp only; omega⟩, by simp only; omega, by simp only; omega⟩
          have HW := Lib.hid hw
          clear hh hA' hR hrn hw
          go_wp2_with fail
          refine (aw17_any C wr).mono ?_
          rintro e w5 ⟨rfl, hb5⟩
          obtain ⟨c5, hA5, _, _⟩ := Al.go C HAL.out hb5
          have ha5 : apE (nn : Int) L' ⟨pl, 32, 0, 0, 0⟩ = 0 := apE_mark (by omega) (by omega) (.inl rfl)
          have HC5 := Lib.hid (Al.append C ⟨pl, 32, 0, 0, 0⟩ hA5 (by omega) (HW.out 32))
          rw [ha5, apL_ok ha5] at HC5
          clear hb5 hA5 ha5 HAL
          go_wp2_with fail
          refine HC5.out.mono ?_
          rintro e w6 ⟨rfl, c6, hA6, _, _⟩
          have ha6 : apE (nn : Int) (L' ++ [⟨pl, 32, 0, 0, 0⟩]) ⟨pl, 33, 0, 0, 0⟩ = 0 := apE_mark (by omega) (by omega) (.inr rfl)
          have HC6 := Lib.hid (Al.append C ⟨pl, 33, 0, 0, 0⟩ hA6 (by simp; omega) (HW.out 33))
          rw [ha6, apL_ok ha6] at HC6
          clear hA6 ha6 HC5
          go_wp2_with fail
          refine HC6.out.mono ?_
          rintro e w7 ⟨rfl, c7, hA7, _, _⟩
          have HRC := Lib.hid (C.records pl hA7.2.2 (by simp; omega) (Ri.of (by omega)))
          rw [rcN_mark (.inr rfl), rcN_mark (.inl rfl), HRN.out] at HRC
          have HB7 := Lib.hid hA7.2.1
          clear hA7 HC6
          go_wp2_with fail
          refine HRC.out.mono ?_
          rintro e w8 ⟨rfl, hb8⟩
          have HF := Lib.hid (HB7.out.trans (hb8.mono HB7.out.size))
          clear hb8 HRC HB7
          go_wp2
          go_ret
          exact ⟨rfl, HF.out⟩
end
end Go.Proofs.Ytlgoiccekgjhnaa
