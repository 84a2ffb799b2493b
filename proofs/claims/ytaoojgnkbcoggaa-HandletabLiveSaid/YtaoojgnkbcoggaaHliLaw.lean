/-
  The law HandletabLive as a walk: called with any arguments of its types it returns true. No conditions.
-/
import Derived.Test.YtaoojgnkbcoggaaHpn
import Derived.Test.YtaoojgnkbcoggaaHqd
namespace Go.Proofs.Ytaoojgnkbcoggaa
open Go.ChangeShapes Go.WideShapes Go.RowKit
set_option linter.unusedVariables false
set_option linter.unusedSimpArgs false
set_option maxHeartbeats 80000000
set_option maxRecDepth 100000

theorem handletabLive_walk (a0 a1 : Int) (a2 : Option Addr) (len2 cap2 : Nat) (w : World) (w0 : (Lit.int .u8 a0).wf = true) (w1 : (Lit.int .u8 a1).wf = true) (w2 : Qua w w.heap.size a2 len2 cap2) :
    Calls Try.prog 5 #[.int .u8 a0, .int .u8 a1, .slice a2 len2 cap2] w fun e w' => e = .returned (.bool true) ∧ Below w.heap.size w w' := by
  have b0 := byte_bd w0
  have b1 := byte_bd w1
  have hF := fst13_in b1
  have hm := Int.emod_nonneg a0 (show (7 : Int) ≠ 0 by omega)
  have hl := Int.emod_lt_of_pos a0 (show (0 : Int) < 7 by omega)
  have HFS : Hid (∀ W, Calls Try.prog 10 #[.int .u8 a1] W fun e w' => e = .returned (.int .i64 (fst13 a1)) ∧ W = w') := Lib.hid (fun W => first13_any a1 W b1)
  have HNS := Lib.hid (ns_ok (n := a0 % 7) (first := fst13 a1) (by omega) hF)
  have hN4 : (a0 % 7).toNat ≤ 4096 := by omega
  have HD := Lib.hid w2
  have hcap := w2.cap
  have hsm := w2.small
  unfold maxLen at hsm
  obtain ⟨i0, hi, hz0, hz1, hz2⟩ := info_parts infoHn
  obtain ⟨j0, hj, hy0, hy1, hy2⟩ := info_parts infoEn
  have HI := Lib.hid hi
  have HZ := Lib.hid hz0
  have HJ := Lib.hid hj
  have HYZ := Lib.hid hy0
  generalize hFF : fst13 a1 = F at *
  obtain ⟨N, hNN⟩ : ∃ N, (a0 % 7).toNat = N := ⟨_, rfl⟩
  have HNE := Lib.hid hNN
  rw [hNN] at hN4
  clear w0 w1 w2 hFF hNN hi hz0 hj hy0
  go_enter Try.func5, Try.ntmps5
  go_wp2_with fail
  refine (HFS.out _).mono ?_
  rintro e wx ⟨rfl, rfl⟩
  have HN := Lib.hid (newT_any (a0 % 7) F w (fun _ => 0) 1)
  unfold NwE at HN
  go_wp2_with fail
  refine HN.out.mono ?_
  rintro e wa (⟨h1, _⟩ | ⟨_, p, rfl, hp, hS, hba⟩)
  · have := HNS.out
    omega
  rw [HNE.out] at hS
  have HV0 : Hid (Qv w N p (.slice none 0 0) (.slice none 0 0) wa) := Lib.hid ⟨hba, _, _, [], [], ⟨hS, OwC.nil, OwC.nil, fun g hg => rc_old hg, hba.size⟩, Liv.new hF⟩
  clear HN hS hba HNS HNE HFS
  go_wp2
  go_loopw [9, 10, 11] (fun ev lv kv wr => ∃ i : Nat, i ≤ len2 ∧ i ≤ 40 ∧ kv = .int .i64 i ∧ ∃ A9 n9 c9 A10 n10 c10, ev = .slice A9 n9 c9 ∧ lv = .slice A10 n10 c10 ∧ n9 ≤ i ∧ n10 ≤ i ∧ Hid (Qv w N p (.slice A9 n9 c9) (.slice A10 n10 c10) wr)) (fun _ _ kv _ => 40 - (intOf kv).toNat)
  case atStart => exact ⟨0, by omega, by omega, rfl, none, 0, 0, none, 0, 0, rfl, rfl, by omega, by omega, HV0⟩
  case round =>
    obtain ⟨i, hi, hi40, rfl, A9, n9, c9, A10, n10, c10, rfl, rfl, hn9, hn10, hh⟩ := hrel
    by_cases hin : i < len2
    · have hi1 : (i : Int) < (len2 : Int) := by omega
      by_cases h40 : i < 40
      · have hi2 : (i : Int) < 40 := by omega
        obtain ⟨hB, c, t, E, L, hQ, hL⟩ := hh.out
        obtain ⟨b, o, x0, x1, x2, x3, rfl, hb, g0, g1, g2, g3, k0, k1, k2, k3⟩ := (HD.out.below hB).cells i hin
        have hbx : Below wr.heap.size wr (wr.alloc (.cells #[.int .u16 x0, .int .u16 x1, .int .u16 x2, .int .u16 x3] 36)) := (Below.refl _ _).alloc (Nat.le_refl _) _
        have hzx : (wr.alloc (.cells #[.int .u16 x0, .int .u16 x1, .int .u16 x2, .int .u16 x3] 36)).heap.size = wr.heap.size + 1 := by simp
        have HX1 : Hid (Bx4 (wr.alloc (.cells #[.int .u16 x0, .int .u16 x1, .int .u16 x2, .int .u16 x3] 36)) wr.heap.size x0 x1 x2 x3) := Lib.hid (heap_alloc_new wr _)
        have HQ1 := Lib.hid (hQ.go hbx)
        have HB1 := Lib.hid (Below.then hB hbx (Nat.le_refl _))
        have HL := Lib.hid hL
        have hC1 : rc c wr.heap.size 0 wr.heap.size = 0 := rc_new (Nat.le_refl _)
        have m0 := Int.emod_nonneg x0 (show (3 : Int) ≠ 0 by omega)
        have m1 : 0 ≤ x1 % 4 ∧ x1 % 4 < 4 := by omega
        have m2 : 0 ≤ x2 % 4 ∧ x2 % 4 < 4 := by omega
        have hcap9 := hQ.ev.1.shape
        have HC1 := Lib.hid hC1
        clear hh hB hQ hL hbx hb hC1 hcap9
        by_cases hx3 : x0 % 3 > 0
        · have hbx : Below (wr.alloc (.cells #[.int .u16 x0, .int .u16 x1, .int .u16 x2, .int .u16 x3] 36)).heap.size (wr.alloc (.cells #[.int .u16 x0, .int .u16 x1, .int .u16 x2, .int .u16 x3] 36)) ((wr.alloc (.cells #[.int .u16 x0, .int .u16 x1, .int .u16 x2, .int .u16 x3] 36)).alloc (.cells #[.int .i64 (i : Int), .int .i64 x1] 42)) := (Below.refl _ _).alloc (Nat.le_refl _) _
          have HX2 : Hid (Bx4 ((wr.alloc (.cells #[.int .u16 x0, .int .u16 x1, .int .u16 x2, .int .u16 x3] 36)).alloc (.cells #[.int .i64 (i : Int), .int .i64 x1] 42)) wr.heap.size x0 x1 x2 x3) := Lib.hid ((hbx.block wr.heap.size (by omega)).trans HX1.out)
          have hax : ExB ((wr.alloc (.cells #[.int .u16 x0, .int .u16 x1, .int .u16 x2, .int .u16 x3] 36)).alloc (.cells #[.int .i64 (i : Int), .int .i64 x1] 42)) (wr.heap.size + 1) i x1 := by
            have := heap_alloc_new (wr.alloc (.cells #[.int .u16 x0, .int .u16 x1, .int .u16 x2, .int .u16 x3] 36)) (.cells #[.int .i64 (i : Int), .int .i64 x1] 42)
            rw [hzx] at this
            exact this
          have HA2 := Lib.hid hax
          have HQ2 := Lib.hid (HQ1.out.go hbx)
          have HB2 := Lib.hid (Below.then HB1.out hbx (Nat.le_refl _))
          have HC2 : Hid (rc (rc c wr.heap.size 0) (wr.alloc (.cells #[.int .u16 x0, .int .u16 x1, .int .u16 x2, .int .u16 x3] 36)).heap.size 0 wr.heap.size = 0 ∧ rc (rc c wr.heap.size 0) (wr.alloc (.cells #[.int .u16 x0, .int .u16 x1, .int .u16 x2, .int .u16 x3] 36)).heap.size 0 (wr.heap.size + 1) = 0) := Lib.hid ⟨by rw [rc_old (by omega)]; exact HC1.out, rc_new (by omega)⟩
          have HS := Lib.hid (issT_any ((wr.alloc (.cells #[.int .u16 x0, .int .u16 x1, .int .u16 x2, .int .u16 x3] 36)).alloc (.cells #[.int .i64 (i : Int), .int .i64 x1] 42)) _ 1 p N t (1 + x1 % 4) (1 + x2 % 4) i x1 x3 HQ2.out.tb HL.out.wf hN4 (by omega))
          unfold IsE at HS
          have hok : okO (1 + x1 % 4) ∧ okT (1 + x2 % 4) := by unfold okO okT; omega
          generalize rc (rc c wr.heap.size 0) (wr.alloc (.cells #[.int .u16 x0, .int .u16 x1, .int .u16 x2, .int .u16 x3] 36)).heap.size 0 = c2 at *
          obtain ⟨y0, y1, y2, y3⟩ := HX1.out.cells
          obtain ⟨z0, z1, z2, z3⟩ := HX2.out.cells
          obtain ⟨q0, q1⟩ := hax.cells
          clear hbx hax HX1 HQ1 HB1 HC1
          by_cases hf : t.s.free = []
          · obtain ⟨e1, e2, e3⟩ := Ht.iss_full hok hf (i : Int) x1 x3
            rw [e1, e2, e3] at HS
            clear e1 e2 e3 hf hok
            go_wp2_with fail
            generalize (wr.alloc (.cells #[.int .u16 x0, .int .u16 x1, .int .u16 x2, .int .u16 x3] 36)).alloc (.cells #[.int .i64 (i : Int), .int .i64 x1] 42) = w2 at *
            refine HS.out.mono ?_
            rintro e w3 ⟨rfl, hT3, hk3⟩
            have HV := Lib.hid (show Qv w N p (.slice A9 n9 c9) (.slice A10 n10 c10) w3 from ⟨HB2.out.trans (HQ2.out.below (Kz.ofKept hk3 (by omega))), _, _, _, _, HQ2.out.call hT3 hk3, HL.out⟩)
            clear hT3 hk3 HS
            go_wp2
            go_roundw
            case rel => exact ⟨i + 1, by omega, by omega, by go_num, _, _, _, _, _, _, rfl, rfl, by omega, by omega, HV⟩
            case measure => simp [intOf]; omega
          · obtain ⟨e1, e2⟩ := Ht.iss_yes hok hf x3
            have hiss := HL.out.iss (f := (i : Int)) (l := x1) (d := x3) hN4 e1
            obtain ⟨hv, hhv⟩ : ∃ hv, t.issH (1 + x1 % 4) (1 + x2 % 4) x3 = hv := ⟨_, rfl⟩
            have hent : t.ent (1 + x1 % 4) (1 + x2 % 4) i x1 x3 = ⟨hv, 1 + x1 % 4, 1 + x2 % 4, i, x1⟩ := by
              unfold Ht.ent
              rw [← hhv, e2]
            rw [hhv, hent] at hiss
            rw [e1, hhv] at HS
            have HIS := Lib.hid hiss
            clear e1 e2 hf hok hhv hent hiss
            go_wp2_with fail
            generalize (wr.alloc (.cells #[.int .u16 x0, .int .u16 x1, .int .u16 x2, .int .u16 x3] 36)).alloc (.cells #[.int .i64 (i : Int), .int .i64 x1] 42) = w2 at *
            generalize wr.heap.size = bx at *
            refine HS.out.mono ?_
            rintro e w3 ⟨rfl, hT3, hk3⟩
            have hkz := Kz.ofKept hk3 (show 1 ≠ 0 by omega)
            have HQ3 := Lib.hid (HQ2.out.call hT3 hk3)
            have HB3 := Lib.hid (HB2.out.trans (HQ2.out.below hkz))
            have hz3 : w2.heap.size ≤ w3.heap.size := hk3.size
            replace z1 := hkz.cell HC2.out.1 z1
            replace z2 := hkz.cell HC2.out.1 z2
            replace q0 := hkz.cell HC2.out.2 q0
            replace q1 := hkz.cell HC2.out.2 q1
            have HC3 : Hid (rc c2 w2.heap.size 1 bx = 0 ∧ rc c2 w2.heap.size 1 (bx + 1) = 0) := Lib.hid ⟨by rw [rc_old (Array.getElem?_eq_some_iff.1 HX2.out).1]; exact HC2.out.1, by rw [rc_old (Array.getElem?_eq_some_iff.1 HA2.out).1]; exact HC2.out.2⟩
            have hlx := (Array.getElem?_eq_some_iff.1 HX2.out).1
            have hla := (Array.getElem?_eq_some_iff.1 HA2.out).1
            generalize rc c2 w2.heap.size 1 = c3 at *
            obtain ⟨_, _, _, e9, hk9⟩ := HQ3.out.ev.1.shape
            cases e9
            have hcap9 := hk9.cap
            have hsm9 := hk9.small
            unfold maxLen at hsm9
            have HK9 := Lib.hid hk9
            have HE9 := Lib.hid hk9.len
            have HL10 := Lib.hid HQ3.out.lv.1.num
            clear hT3 hk3 hkz HS z0 z3 y0 y1 y2 y3 hk9
            go_wp2
            go_loopw [83] (fun kv wr => ∃ k : Nat, k ≤ n9 ∧ kv = .int .i64 k ∧ wr = w3) (fun kv _ => n9 - (intOf kv).toNat)
            case atStart => exact ⟨0, by omega, rfl, rfl⟩
            case round =>
              obtain ⟨k, hk, rfl, hw3⟩ := hrel
              subst hw3
              rename World => w3
              by_cases hkn : k < n9
              · have hk1 : (k : Int) < (n9 : Int) := by omega
                obtain ⟨b9, o9, u, hu, e9, hb9, g9⟩ := HK9.out.han_at hkn
                subst e9
                have hub : (u == hv) = false := by
                  have : u ≠ hv := fun e => HIS.out.2 (e ▸ List.mem_of_getElem? hu)
                  simpa using this
                clear hu hb9
                go_wp2
                go_roundw
                case rel => exact ⟨k + 1, by omega, by go_num, trivial⟩
                case measure => simp [intOf]; omega
              · obtain rfl : k = n9 := by omega
                have hkk : ¬ (k : Int) < (k : Int) := by omega
                have hba : Below w3.heap.size w3 (w3.alloc (.cells #[.int .u64 hv] 39)) := (Below.refl _ _).alloc (Nat.le_refl _) _
                have HBA := Lib.hid hba
                have HQA := Lib.hid (HQ3.out.go hba)
                have HYA : Hid (Kws han1 (w3.alloc (.cells #[.int .u64 hv] 39)) (w3.heap.size + 1) (some ⟨w3.heap.size, 0, none⟩) 1 1 [hv]) := Lib.hid (Kws.new (E := han1) w3 [hv] _ _ 1 rfl rfl (by unfold maxLen; omega))
                have HCA : Hid (rc c3 w3.heap.size 0 bx = 0 ∧ rc c3 w3.heap.size 0 (bx + 1) = 0) := Lib.hid ⟨by rw [rc_old (by omega)]; exact HC3.out.1, by rw [rc_old (by omega)]; exact HC3.out.2⟩
                have za1 : (w3.alloc (.cells #[.int .u64 hv] 39)).cell? ⟨bx, 1, none⟩ = some (.int .u16 x1) := cell_under z1 _
                have za2 : (w3.alloc (.cells #[.int .u64 hv] 39)).cell? ⟨bx, 2, none⟩ = some (.int .u16 x2) := cell_under z2 _
                have qa0 : (w3.alloc (.cells #[.int .u64 hv] 39)).cell? ⟨bx + 1, 0, none⟩ = some (.int .i64 i) := cell_under q0 _
                have qa1 : (w3.alloc (.cells #[.int .u64 hv] 39)).cell? ⟨bx + 1, 1, none⟩ = some (.int .i64 x1) := cell_under q1 _
                have hzA : w3.heap.size ≤ (w3.alloc (.cells #[.int .u64 hv] 39)).heap.size := by simp
                generalize rc c3 w3.heap.size 0 = cA at *
                clear hba
                go_wp2_with (at_builtin; go_must (first
                  | (refine wpList_appK _ rfl (.tmp 93) (.tmp 95) 32 rfl Try.underlying32 HI.out HZ.out rfl hz1 (by omega) HQA.out.ev.1 rfl HYA.out rfl (by have := HE9.out; omega) (Nat.zero_le _) ?_
                     intro v5 w5 ho5 _ hg5
                     obtain ⟨A5, n5, c5, rfl, hx5⟩ := ho5.shape
                     obtain ⟨hq5, hkz5⟩ := HQA.out.appE ho5 hg5.1 hg5.2
                     have HN5 : Hid (n5 = k + 1) := Lib.hid (by have h1 := hx5.len; rw [List.length_append, HE9.out] at h1; simpa using h1.symm)
                     have hb6 : Below w5.heap.size w5 (w5.alloc (.cells #[.int .u64 hv, .int .i64 (1 + x1 % 4), .int .i64 (1 + x2 % 4), .int .i64 (i : Int), .int .i64 x1] 44)) := (Below.refl _ _).alloc (Nat.le_refl _) _
                     have HQ6 := Lib.hid (hq5.go hb6)
                     have HY6 := Lib.hid (en_new w5 hv (1 + x1 % 4) (1 + x2 % 4) i x1)
                     have HB6 := Lib.hid ((Below.then HB3.out HBA.out (Nat.le_refl _)).trans ((HQA.out.below hkz5).trans (hb6.mono hq5.bd)))
                     replace za1 := hkz5.cell HCA.out.1 za1
                     replace za2 := hkz5.cell HCA.out.1 za2
                     replace qa0 := hkz5.cell HCA.out.2 qa0
                     replace qa1 := hkz5.cell HCA.out.2 qa1
                     clear ho5 hg5 hx5 hq5 hkz5 hb6)
                  | (refine wpList_appK _ rfl (.tmp 97) (.tmp 111) 55 rfl Try.underlying55 HJ.out HYZ.out rfl hy1 (by omega) HQ6.out.lv.1 rfl HY6.out rfl (by have := HL10.out; omega) (Nat.zero_le _) ?_
                     intro v7 w7 ho7 _ hg7
                     obtain ⟨A7, n7, c7, rfl, hx7⟩ := ho7.shape
                     obtain ⟨hq7, hkz7⟩ := HQ6.out.appL ho7 hg7.1 hg7.2
                     have HN7 : Hid (n7 = n10 + 1) := Lib.hid (by have h1 := hx7.len; rw [List.length_append, ← HL10.out] at h1; simpa using h1.symm)
                     have HFIN : Hid (Qv w N p (.slice A5 n5 c5) (.slice A7 n7 c7) w7) := Lib.hid ⟨HB6.out.trans (HQ6.out.below hkz7), _, _, _, _, hq7, HIS.out.1⟩
                     clear ho7 hg7 hx7 hq7 hkz7)))
                have hn5' : n5 ≤ i + 1 := by have := HN5.out; omega
                have hn7' : n7 ≤ i + 1 := by have := HN7.out; omega
                clear za1 za2 qa0 qa1 z1 z2 q0 q1 HQ6 HY6 HB6 HQA HYA HBA HCA HC3 HQ3 HB3 HIS HL HK9
                obtain ⟨hBf, cf, tf, Ef, Lf, hQf, hLf⟩ := HFIN.out
                have HBf := Lib.hid hBf
                have HQf := Lib.hid hQf
                have HLf := Lib.hid hLf
                have hEl : n5 = Ef.length := hQf.ev.1.num
                have hLl : n7 = Lf.length := hQf.lv.1.num
                obtain ⟨_, _, _, e9, hk9⟩ := hQf.ev.1.shape
                cases e9
                obtain ⟨_, _, _, e10, hk10⟩ := hQf.lv.1.shape
                cases e10
                have HK9 := Lib.hid hk9
                have HK10 := Lib.hid hk10
                have hcap9 := hk9.cap
                have hsm9 := hk9.small
                have hcap10 := hk10.cap
                have hsm10 := hk10.small
                unfold maxLen at hsm9 hsm10
                have HEl := Lib.hid hEl
                have HLl := Lib.hid hLl
                clear hBf hQf hLf hk9 hk10 hEl hLl
                go_wp2
                go_loopw [161] (fun kv wr => ∃ k : Nat, k ≤ n5 ∧ kv = .int .i64 k ∧ Hid (Below w7.heap.size w7 wr)) (fun kv _ => n5 - (intOf kv).toNat)
                case atStart => exact ⟨0, by omega, rfl, Lib.hid (Below.refl _ _)⟩
                case round =>
                  rename World => wq
                  obtain ⟨k, hk, rfl, hh2⟩ := hrel
                  by_cases hkn : k < n5
                  · have hk1 : (k : Int) < (n5 : Int) := by omega
                    have HQk := Lib.hid (HQf.out.go hh2.out)
                    obtain ⟨b9, o9, hv, hvE, e9, hb9, g9⟩ := (HK9.out.go hh2.out).han_at hkn
                    subst e9
                    have hmem := List.mem_of_getElem? hvE
                    have HUV := Lib.hid (HLf.out.ev hv hmem).1
                    have HRS := Lib.hid (resS_any wq _ 1 p N tf hv HQk.out.tb HLf.out.wf hN4 HUV.out)
                    unfold RsE at HRS
                    have hres := HLf.out.res hN4 hmem
                    clear hvE hmem hb9
                    rcases hres with ⟨hr0, y, hyL, hyh, hyV⟩ | ⟨hr0, hno⟩
                    · rw [hr0, hyV] at HRS
                      unfold enV at HRS
                      have HY : Hid (∀ x ∈ Lf, x.h = hv → x = y) := Lib.hid (fun x hx e => HLf.out.only hN4 hx hyL (by rw [e, hyh]))
                      have HAN : Hid ((Lf.any fun x => x.h == hv) = true) := Lib.hid (List.any_eq_true.2 ⟨y, hyL, by simpa using hyh⟩)
                      clear hr0 hyL hyh hyV
                      go_wp2_with fail
                      refine HRS.out.mono ?_
                      rintro e w4 ⟨rfl, hb4⟩
                      have hb5 : Below wq.heap.size wq (w4.alloc (.cells #[.int .u64 y.h, .int .i64 y.o, .int .i64 y.t, .int .i64 y.f, .int .i64 y.l] 44)) := hb4.alloc hb4.size _
                      have HB5 := Lib.hid (Below.then hh2.out hb5 (Nat.le_refl _))
                      have HK95 := Lib.hid ((HK9.out.go hh2.out).go hb5)
                      have HK105 := Lib.hid ((HK10.out.go hh2.out).go hb5)
                      have HX5 := Lib.hid (EnB.new (w := w4) (h := y.h) (o := y.o) (t := y.t) (f := y.f) (l := y.l))
                      have G9 := Lib.hid ((hb5.cell (p := ⟨b9, o9 + k, none⟩) (lt_of_some g9)).trans g9)
                      clear hb4 hb5 HRS hh2 g9
                      go_wp2
                      generalize w4.alloc (.cells #[.int .u64 y.h, .int .i64 y.o, .int .i64 y.t, .int .i64 y.f, .int .i64 y.l] 44) = w5 at *
                      generalize w4.heap.size = bx5 at *
                      go_loopw [24, 175] (fun mt jv wr => ∃ j : Nat, j ≤ n7 ∧ jv = .int .i64 j ∧ (∃ mb : Bool, mt = .bool mb ∧ Hid (mb = (Lf.take j).any fun x => x.h == hv)) ∧ Hid (Below w5.heap.size w5 wr)) (fun _ jv _ => n7 - (intOf jv).toNat)
                      case atStart => exact ⟨0, by omega, rfl, ⟨false, rfl, Lib.hid (by simp)⟩, Lib.hid (Below.refl _ _)⟩
                      case round =>
                        rename World => ws
                        obtain ⟨j, hj, rfl, ⟨mb, rfl, hmb⟩, hh3⟩ := hrel
                        by_cases hjn : j < n7
                        · have hj1 : (j : Int) < (n7 : Int) := by omega
                          obtain ⟨b10, o10, x, hxL, e10, hb10, f0, f1, f2, f3, f4⟩ := (HK105.out.go hh3.out).en_at hjn
                          subst e10
                          have q9 := (hh3.out.cell (p := ⟨b9, o9 + k, none⟩) (lt_of_some G9.out)).trans G9.out
                          obtain ⟨r0, r1, r2, r3, r4⟩ := (HX5.out.go hh3.out).cells
                          have HNX := Lib.hid (any_next (h := hv) hxL)
                          have hxm := List.mem_of_getElem? hxL
                          have HB := Lib.hid hh3.out
                          have HMB := Lib.hid hmb.out
                          clear hxL hb10 hh3 hmb
                          cases mb
                          · by_cases hxh : x.h = hv
                            · obtain rfl := HY.out x hxm hxh
                              have hxb : (x.h == hv) = true := by simpa using hxh
                              have heq := same_en x.h x.o x.t x.f x.l
                              have HN2 : Hid (((Lf.take (j + 1)).any fun x => x.h == hv) = true) := Lib.hid (by rw [HNX.out, hxb, Bool.or_true])
                              clear hxm
                              go_wp2
                              go_quiet (fail)
                              have HB2 := Lib.hid (Below.then HB.out (below_drewN (Below.refl ws.heap.size ws) nq) (Nat.le_refl _))
                              clear f0 f1 f2 f3 f4 r0 r1 r2 r3 r4 q9 HB
                              go_wp2
                              go_roundw
                              case rel => exact ⟨j + 1, by omega, by go_num, ⟨true, rfl, Lib.hid HN2.out.symm⟩, HB2⟩
                              case measure => simp [intOf]; omega
                            · have hxb : (x.h == hv) = false := by simpa using hxh
                              have HN2 : Hid (((Lf.take (j + 1)).any fun x => x.h == hv) = false) := Lib.hid (by rw [HNX.out, hxb, ← HMB.out]; rfl)
                              clear hxm
                              go_wp2
                              go_quiet (fail)
                              have HB2 := Lib.hid (Below.then HB.out (below_drewN (Below.refl ws.heap.size ws) nq) (Nat.le_refl _))
                              clear f0 f1 f2 f3 f4 r0 r1 r2 r3 r4 q9 HB
                              go_wp2
                              go_roundw
                              case rel => exact ⟨j + 1, by omega, by go_num, ⟨false, rfl, Lib.hid HN2.out.symm⟩, HB2⟩
                              case measure => simp [intOf]; omega
                          · have HN2 : Hid (((Lf.take (j + 1)).any fun x => x.h == hv) = true) := Lib.hid (by rw [HNX.out, ← HMB.out, Bool.true_or])
                            clear hxm
                            go_wp2
                            go_quiet (fail)
                            have HB2 := Lib.hid (Below.then HB.out (below_drewN (Below.refl ws.heap.size ws) nq) (Nat.le_refl _))
                            clear f0 f1 f2 f3 f4 r0 r1 r2 r3 r4 q9 HB
                            go_wp2
                            go_roundw
                            case rel => exact ⟨j + 1, by omega, by go_num, ⟨true, rfl, Lib.hid HN2.out.symm⟩, HB2⟩
                            case measure => simp [intOf]; omega
                        · obtain rfl : j = n7 := by omega
                          have hjj : ¬ (j : Int) < (j : Int) := by omega
                          obtain rfl : mb = true := by
                            have h1 := hmb.out
                            rw [List.take_of_length_le (by rw [← HLl.out]; exact Nat.le_refl _), HAN.out] at h1
                            exact h1
                          have HB6 := Lib.hid (Below.then HB5.out hh3.out (Nat.le_refl _))
                          clear hh3 hmb
                          go_wp2
                          go_roundw
                          case rel => exact ⟨k + 1, by omega, by go_num, HB6⟩
                          case measure => simp [intOf]; omega
                    · have hrv : tf.resV hv = En.z := if_neg (by rw [hr0]; omega)
                      rw [hr0, hrv] at HRS
                      unfold enV En.z at HRS
                      simp only at HRS
                      have HNO := Lib.hid hno
                      have HAN : Hid ((Lf.any fun x => x.h == hv) = false) := Lib.hid (by
                        rw [List.any_eq_false]
                        intro x hx
                        simpa using hno x hx)
                      clear hr0 hno hrv
                      go_wp2_with fail
                      refine HRS.out.mono ?_
                      rintro e w4 ⟨rfl, hb4⟩
                      have hb5 : Below wq.heap.size wq (w4.alloc (.cells #[.int .u64 0, .int .i64 0, .int .i64 0, .int .i64 0, .int .i64 0] 44)) := hb4.alloc hb4.size _
                      have HB5 := Lib.hid (Below.then hh2.out hb5 (Nat.le_refl _))
                      have HK95 := Lib.hid ((HK9.out.go hh2.out).go hb5)
                      have HK105 := Lib.hid ((HK10.out.go hh2.out).go hb5)
                      have HX5 := Lib.hid (EnB.new (w := w4) (h := 0) (o := 0) (t := 0) (f := 0) (l := 0))
                      have G9 := Lib.hid ((hb5.cell (p := ⟨b9, o9 + k, none⟩) (lt_of_some g9)).trans g9)
                      clear hb4 hb5 HRS hh2 g9
                      go_wp2
                      generalize w4.alloc (.cells #[.int .u64 0, .int .i64 0, .int .i64 0, .int .i64 0, .int .i64 0] 44) = w5 at *
                      generalize w4.heap.size = bx5 at *
                      go_loopw [24, 175] (fun mt jv wr => ∃ j : Nat, j ≤ n7 ∧ jv = .int .i64 j ∧ (∃ mb : Bool, mt = .bool mb ∧ Hid (mb = (Lf.take j).any fun x => x.h == hv)) ∧ Hid (Below w5.heap.size w5 wr)) (fun _ jv _ => n7 - (intOf jv).toNat)
                      case atStart => exact ⟨0, by omega, rfl, ⟨false, rfl, Lib.hid (by simp)⟩, Lib.hid (Below.refl _ _)⟩
                      case round =>
                        rename World => ws
                        obtain ⟨j, hj, rfl, ⟨mb, rfl, hmb⟩, hh3⟩ := hrel
                        by_cases hjn : j < n7
                        · have hj1 : (j : Int) < (n7 : Int) := by omega
                          obtain ⟨b10, o10, x, hxL, e10, hb10, f0, f1, f2, f3, f4⟩ := (HK105.out.go hh3.out).en_at hjn
                          subst e10
                          have q9 := (hh3.out.cell (p := ⟨b9, o9 + k, none⟩) (lt_of_some G9.out)).trans G9.out
                          obtain ⟨r0, r1, r2, r3, r4⟩ := (HX5.out.go hh3.out).cells
                          have HNX := Lib.hid (any_next (h := hv) hxL)
                          have hxm := List.mem_of_getElem? hxL
                          have HB := Lib.hid hh3.out
                          have HMB := Lib.hid hmb.out
                          clear hxL hb10 hh3 hmb
                          cases mb
                          · by_cases hxh : x.h = hv
                            · exact absurd hxh (HNO.out x hxm)
                            · have hxb : (x.h == hv) = false := by simpa using hxh
                              have HN2 : Hid (((Lf.take (j + 1)).any fun x => x.h == hv) = false) := Lib.hid (by rw [HNX.out, hxb, ← HMB.out]; rfl)
                              clear hxm
                              go_wp2
                              go_quiet (fail)
                              have HB2 := Lib.hid (Below.then HB.out (below_drewN (Below.refl ws.heap.size ws) nq) (Nat.le_refl _))
                              clear f0 f1 f2 f3 f4 r0 r1 r2 r3 r4 q9 HB
                              go_wp2
                              go_roundw
                              case rel => exact ⟨j + 1, by omega, by go_num, ⟨false, rfl, Lib.hid HN2.out.symm⟩, HB2⟩
                              case measure => simp [intOf]; omega
                          · have HN2 : Hid (((Lf.take (j + 1)).any fun x => x.h == hv) = true) := Lib.hid (by rw [HNX.out, ← HMB.out, Bool.true_or])
                            clear hxm
                            go_wp2
                            go_quiet (fail)
                            have HB2 := Lib.hid (Below.then HB.out (below_drewN (Below.refl ws.heap.size ws) nq) (Nat.le_refl _))
                            clear f0 f1 f2 f3 f4 r0 r1 r2 r3 r4 q9 HB
                            go_wp2
                            go_roundw
                            case rel => exact ⟨j + 1, by omega, by go_num, ⟨true, rfl, Lib.hid HN2.out.symm⟩, HB2⟩
                            case measure => simp [intOf]; omega
                        · obtain rfl : j = n7 := by omega
                          have hjj : ¬ (j : Int) < (j : Int) := by omega
                          obtain rfl : mb = false := by
                            have h1 := hmb.out
                            rw [List.take_of_length_le (by rw [← HLl.out]; exact Nat.le_refl _), HAN.out] at h1
                            exact h1
                          have HB6 := Lib.hid (Below.then HB5.out hh3.out (Nat.le_refl _))
                          clear hh3 hmb
                          go_wp2
                          go_roundw
                          case rel => exact ⟨k + 1, by omega, by go_num, HB6⟩
                          case measure => simp [intOf]; omega
                  · obtain rfl : k = n5 := by omega
                    have HV := Lib.hid (show Qv w N p (.slice A5 k c5) (.slice A7 n7 c7) wq from ⟨Below.then HBf.out hh2.out (Nat.le_refl _), _, _, _, _, HQf.out.go hh2.out, HLf.out⟩)
                    have hkk : ¬ (k : Int) < (k : Int) := by omega
                    clear hh2
                    go_wp2
                    go_roundw
                    case rel => exact ⟨i + 1, by omega, by omega, by go_num, _, _, _, _, _, _, rfl, rfl, by omega, by omega, HV⟩
                    case measure => simp [intOf]; omega
        · as_aux_lemma =>
            obtain ⟨y0, y1, y2, y3⟩ := HX1.out.cells
            obtain ⟨_, _, _, e9, hk9⟩ := HQ1.out.ev.1.shape
            cases e9
            have hcap9 := hk9.cap
            have hsm9 := hk9.small
            unfold maxLen at hsm9
            have HK9 := Lib.hid hk9
            have hl9 := hk9.len
            have HE9 := Lib.hid hl9
            clear hk9 hl9
            by_cases hz9 : 0 < n9
            · have hz9' : (n9 : Int) > 0 := by omega
              have hzb : ((n9 : Int) == 0) = false := by simpa using (show ¬ (n9 : Int) = 0 by omega)
              have hmd := Int.emod_nonneg x1 (show (n9 : Int) ≠ 0 by omega)
              have hml := Int.emod_lt_of_pos x1 (show (0 : Int) < (n9 : Int) by omega)
              obtain ⟨ix, hix⟩ : ∃ ix : Nat, x1 % (n9 : Int) = (ix : Int) := ⟨(x1 % (n9 : Int)).toNat, by omega⟩
              obtain ⟨b9, o9, hv, hvE, e9, hb9, g9⟩ := HK9.out.han_at (i := ix) (by omega)
              subst e9
              have hixn : (ix : Int) < (n9 : Int) := by omega
              have hmem := List.mem_of_getElem? hvE
              have HUV := Lib.hid (HL.out.ev hv hmem).1
              have HDP := Lib.hid (drpT_any (wr.alloc (.cells #[.int .u16 x0, .int .u16 x1, .int .u16 x2, .int .u16 x3] 36)) _ 1 p N t hv HQ1.out.tb HL.out.wf hN4 HUV.out)
              unfold DpE at HDP
              have hres := HL.out.res hN4 hmem
              clear hvE hmem hb9
              rcases hres with ⟨hr0, y, hyL, hyh, _⟩ | ⟨hr0, hno⟩
              · rw [hr0] at HDP
                obtain ⟨m, hmL⟩ := List.getElem?_of_mem hyL
                have hml2 : m < L.length := (List.getElem?_eq_some_iff.1 hmL).1
                have HEQ : Hid (∀ (j : Nat) (x : En), L[j]? = some x → (x.h = hv ↔ j = m)) := Lib.hid (fun j x hx => ⟨fun e => HL.out.at_ hN4 j m hx hmL (by rw [e, hyh]), fun e => by
                  subst e
                  rw [hmL] at hx
                  rw [← Option.some.inj hx]
                  exact hyh⟩)
                have HLD := Lib.hid (HL.out.drp hN4 HUV.out hr0 hmL hyh)
                clear hr0 hyL hyh hmL
                go_wp2_with fail
                generalize wr.alloc (.cells #[.int .u16 x0, .int .u16 x1, .int .u16 x2, .int .u16 x3] 36) = w1 at *
                generalize wr.heap.size = bx at *
                refine HDP.out.mono ?_
                rintro e w3 ⟨rfl, hT3, hk3⟩
                have HQ3 := Lib.hid (HQ1.out.call hT3 hk3)
                have HB3 := Lib.hid (HB1.out.trans (HQ1.out.below (Kz.ofKept hk3 (by omega))))
                generalize rc (rc c bx 0) w1.heap.size 1 = c3 at *
                obtain ⟨_, _, _, e10, hk10⟩ := HQ3.out.lv.1.shape
                cases e10
                have hcap10 := hk10.cap
                have hsm10 := hk10.small
                unfold maxLen at hsm10
                have hl10 : L.length = n10 := hk10.len
                have hmn : m < n10 := by omega
                have HK10 := Lib.hid hk10
                clear hT3 hk3 HDP hk10 HX1 HQ1 HB1 HC1 HL y0 y1 y2 y3 g9 HK9
                go_wp2
                go_loopw [19, 130] (fun kv jv wr => ∃ j : Nat, j ≤ n10 ∧ jv = .int .i64 j ∧ (∃ v : Int, kv = .int .i64 v ∧ Hid (v = if m < j then (m : Int) else -1)) ∧ wr = w3) (fun _ jv _ => n10 - (intOf jv).toNat)
                case atStart => exact ⟨0, by omega, rfl, ⟨-1, rfl, Lib.hid (by rw [if_neg (by omega)])⟩, rfl⟩
                case round =>
                  obtain ⟨j, hj, rfl, ⟨v, rfl, hv19⟩, hw3⟩ := hrel
                  subst hw3
                  rename World => w3
                  by_cases hjn : j < n10
                  · have hj1 : (j : Int) < (n10 : Int) := by omega
                    obtain ⟨b10, o10, x, hxL, e10, hb10, f0, f1, f2, f3, f4⟩ := HK10.out.en_at hjn
                    subst e10
                    have hxm := HEQ.out j x hxL
                    clear hxL hb10
                    by_cases hjm : j = m
                    · subst hjm
                      have hxb : (x.h == hv) = true := by simpa using hxm.2 rfl
                      clear hxm
                      go_wp2
                      go_roundw
                      case rel => exact ⟨j + 1, by omega, by go_num, ⟨j, rfl, Lib.hid (by rw [if_pos (by omega)])⟩, trivial⟩
                      case measure => simp [intOf]; omega
                    · have hxb : (x.h == hv) = false := by simpa using fun e => hjm (hxm.1 e)
                      clear hxm
                      go_wp2
                      go_roundw
                      case rel => exact ⟨j + 1, by omega, by go_num, ⟨v, rfl, Lib.hid (by
                        rw [hv19.out]
                        by_cases h1 : m < j
                        · rw [if_pos h1, if_pos (by omega)]
                        · rw [if_neg h1, if_neg (by omega)])⟩, trivial⟩
                      case measure => simp [intOf]; omega
                  · obtain rfl : j = n10 := by omega
                    have hjj : ¬ (j : Int) < (j : Int) := by omega
                    obtain rfl : v = (m : Int) := by rw [hv19.out, if_pos hmn]
                    obtain ⟨b10, o10, x, hxL, e10, hb10, f0, f1, f2, f3, f4⟩ := HK10.out.en_at hmn
                    subst e10
                    have hm0 : (0 : Int) ≤ (m : Int) := by omega
                    have hm1 : (m : Int) ≤ (c10 : Int) := by omega
                    have hm2 : (m : Int) + 1 ≤ (j : Int) := by omega
                    have hm3 : (m : Int) ≤ (j : Int) := by omega
                    have hwm : IntKind.i64.wrap ((m : Int) + 1) = (m : Int) + 1 := by rw [IntKind.wrap_i64]; omega
                    have HTK := Lib.hid (HK10.out.take (k := m) (by omega))
                    have HDR := Lib.hid (HK10.out.drop (k := m + 1) (by omega))
                    clear hxL hb10 f0 f1 f2 f3 f4
                    go_wp2_with fail
                    refine wp_region_hands 11 (fun _ => True) (by kernel_rfl) (by kernel_rfl) ?_
                    rw [show Array.replicate 11 false = #[false, false, false, false, false, false, false, false, false, false, false] from rfl]
                    refine held_take (i := 1) (d := 150) (v := .slice (some ⟨b10, o10, none⟩) j c10) rfl rfl (by kernel_rfl) (by kernel_rfl) (by kernel_rfl) (fun _ _ _ h => h) (by rfl) (fun W _ => run_move_is (.tmp 10) rfl rfl W) trivial ?_
                    simp only [Act.put, List.setIfInBounds_toArray, List.set_cons_zero, List.set_cons_succ]
                    refine held_take (i := 2) (d := 151) (v := .int .i64 (m : Int)) rfl rfl (by kernel_rfl) (by kernel_rfl) (by kernel_rfl) (fun _ _ _ h => h) (by rfl) (fun W _ => run_move_is (.tmp 19) rfl rfl W) trivial ?_
                    simp only [Act.put, List.setIfInBounds_toArray, List.set_cons_zero, List.set_cons_succ]
                    refine held_take (i := 3) (d := 152) (v := .slice (some ⟨b10, o10, none⟩) m c10) rfl rfl (by kernel_rfl) (by kernel_rfl) (by kernel_rfl) (fun _ _ _ h => h) (by rfl) (fun W _ => by go_simp) trivial ?_
                    simp only [Act.put, List.setIfInBounds_toArray, List.set_cons_zero, List.set_cons_succ]
                    refine held_take (i := 5) (d := 154) (v := .slice (some ⟨b10, o10, none⟩) j c10) rfl rfl (by kernel_rfl) (by kernel_rfl) (by kernel_rfl) (fun _ _ _ h => h) (by rfl) (fun W _ => run_move_is (.tmp 10) rfl rfl W) trivial ?_
                    simp only [Act.put, List.setIfInBounds_toArray, List.set_cons_zero, List.set_cons_succ]
                    refine held_take (i := 6) (d := 155) (v := .int .i64 (m : Int)) rfl rfl (by kernel_rfl) (by kernel_rfl) (by kernel_rfl) (fun _ _ _ h => h) (by rfl) (fun W _ => run_move_is (.tmp 19) rfl rfl W) trivial ?_
                    simp only [Act.put, List.setIfInBounds_toArray, List.set_cons_zero, List.set_cons_succ]
                    refine held_take (i := 7) (d := 156) (v := .int .i64 ((m : Int) + 1)) rfl rfl (by kernel_rfl) (by kernel_rfl) (by kernel_rfl) (fun _ _ _ h => h) (by rfl) (fun W _ => by go_simp) trivial ?_
                    simp only [Act.put, List.setIfInBounds_toArray, List.set_cons_zero, List.set_cons_succ]
                    refine held_take (i := 8) (d := 157) (v := .slice (if c10 = m + 1 then some ⟨b10, o10, none⟩ else (some ⟨b10, o10, none⟩ : Option Addr).map (·.add ((m + 1) * en5.k))) (j - (m + 1)) (c10 - (m + 1))) rfl rfl (by kernel_rfl) (by kernel_rfl) (by kernel_rfl) (fun _ _ _ h => h) (by rfl) (fun W _ => by
                      by_cases hcm : c10 = m + 1
                      · subst hcm
                        rw [if_pos rfl]
                        go_simp
                        exact fun h => absurd h (by omega)
                      · rw [if_neg hcm]
                        go_simp
                        exact if_pos (by omega)) trivial ?_
                    simp only [Act.put, List.setIfInBounds_toArray, List.set_cons_zero, List.set_cons_succ]
                    refine held_one (i := 0) (by kernel_rfl) ?_
                    refine held_make (d := 149) rfl rfl (by rfl) (run_noneE rfl _) ⟨trivial, ?_⟩
                    simp only [Act.put, List.setIfInBounds_toArray, List.set_cons_zero, List.set_cons_succ]
                    have hdr : Below w3.heap.size w3 w3.drew := below_drewN (Below.refl _ _) 1
                    have hba : Below w3.heap.size w3 (w3.drew.alloc (.cells #[] 44)) := hdr.alloc (Nat.le_refl _) _
                    have HBA := Lib.hid hba
                    have hoa : OwnK en5 44 (w3.drew.alloc (.cells #[] 44)) w3.heap.size (.slice (some ⟨w3.drew.heap.size, 0, none⟩) 0 0) [] := World.ownsRow_made _ #[] 0 (Nat.le_refl _) (Nat.zero_le _) rfl
                    have HOA := Lib.hid hoa
                    have hza : (w3.drew.alloc (.cells #[] 44)).heap.size = w3.heap.size + 1 := by simp
                    clear hdr hba hoa
                    refine held_one (i := 4) (by kernel_rfl) ?_
                    refine held_law rfl (step_appK (E' := en5) (w3.drew.alloc (.cells #[] 44)) rfl (.tmp 149) (.tmp 152) 55 rfl Try.underlying55 HJ.out HYZ.out rfl hy1 (by omega) HOA.out rfl (HTK.out.below HBA.out) rfl (by simp; omega) (by omega) ?_)
                    intro v5 w5 ho5 hg5 hv5
                    have HO5 : Hid (OwnK en5 44 w5 w3.heap.size v5 (L.take m)) := Lib.hid (by simpa using ho5)
                    have HB5 : Hid (Below w3.heap.size w3 w5) := Lib.hid (HBA.out.grown hg5 (by omega) (fun g e => by cases e; simp))
                    refine ⟨trivial, ?_⟩
                    clear ho5 hg5 hv5
                    simp only [Act.put, List.setIfInBounds_toArray, List.set_cons_zero, List.set_cons_succ, List.getElem_toArray, List.getElem_cons_succ, List.getElem_cons_zero]
                    refine held_one (i := 9) (by kernel_rfl) ?_
                    refine held_law rfl (step_appK (E' := en5) w5 rfl (.tmp 153) (.tmp 157) 55 rfl Try.underlying55 HJ.out HYZ.out rfl hy1 (by omega) HO5.out rfl (HDR.out.below HB5.out) rfl (by rw [List.length_take]; omega) HB5.out.size ?_)
                    intro v7 w7 ho7 hg7 hv7
                    obtain ⟨A7, n7, c7, rfl, hx7⟩ := ho7.shape
                    have hb7 : Below w3.heap.size w3 w7 := HB5.out.grown hg7 HB5.out.size (fun g e => (HO5.out.ge e).1)
                    have HN7 : Hid (n7 + 1 = j) := Lib.hid (by
                      have h1 := hx7.len
                      rw [List.length_append, List.length_take, List.length_drop] at h1
                      omega)
                    have HFIN : Hid (Qv w N p (.slice (some ⟨b9, o9, none⟩) n9 c9) (.slice A7 n7 c7) w7) := Lib.hid ⟨Below.then HB3.out hb7 (Nat.le_refl _), _, _, _, _, HQ3.out.newL ho7 hb7, HLD.out⟩
                    refine ⟨trivial, ?_⟩
                    clear ho7 hg7 hv7 hx7 hb7 HO5 HB5 HTK HDR HOA HBA
                    simp only [Act.put, List.setIfInBounds_toArray, List.set_cons_zero, List.set_cons_succ, List.getElem_toArray, List.getElem_cons_succ, List.getElem_cons_zero]
                    refine held_take (i := 10) (d := 10) (v := .slice A7 n7 c7) rfl rfl (by kernel_rfl) (by kernel_rfl) (by kernel_rfl) (fun _ _ _ h => h) (by rfl) (fun W _ => by go_simp) trivial ?_
                    simp only [Act.put, List.setIfInBounds_toArray, List.set_cons_zero, List.set_cons_succ]
                    refine wpAnyH_done (by kernel_rfl) ?_ _
                    have hn7' : n7 ≤ i + 1 := by have := HN7.out; omega
                    have hn9' : n9 ≤ i + 1 := by omega
                    clear hza hl10 hm0 hm1 hm2 hm3 hmn hml2 hj hjn hjj hn10 hix hixn hzb hmd hml hzx
                    clear HEQ HLD HQ3 HB3 HN7 HE9 hv19 hwm
                    generalize (if c10 = m + 1 then some ⟨b10, o10, none⟩ else (some ⟨b10, o10, none⟩ : Option Addr).map (·.add ((m + 1) * en5.k))) = AD
                    generalize w3.drew.heap.size = qa
                    generalize j - (m + 1) = qb
                    generalize c10 - (m + 1) = qc
                    generalize (m : Int) + 1 = qd
                    generalize hA9 : (some ⟨b9, o9, none⟩ : Option Addr) = A9 at *
                    clear hA9
                    as_aux_lemma =>
                      obtain ⟨hBf, cf, tf, Ef, Lf, hQf, hLf⟩ := HFIN.out
                      have HBf := Lib.hid hBf
                      have HQf := Lib.hid hQf
                      have HLf := Lib.hid hLf
                      have hEl : n9 = Ef.length := hQf.ev.1.num
                      have hLl : n7 = Lf.length := hQf.lv.1.num
                      obtain ⟨_, _, _, e9, hk9⟩ := hQf.ev.1.shape
                      cases e9
                      obtain ⟨_, _, _, e10, hk10⟩ := hQf.lv.1.shape
                      cases e10
                      have HK9 := Lib.hid hk9
                      have HK10 := Lib.hid hk10
                      have hcap9 := hk9.cap
                      have hsm9 := hk9.small
                      have hcap10 := hk10.cap
                      have hsm10 := hk10.small
                      unfold maxLen at hsm9 hsm10
                      have HEl := Lib.hid hEl
                      have HLl := Lib.hid hLl
                      clear hBf hQf hLf hk9 hk10 hEl hLl
                      go_wp2
                      go_loopw [161] (fun kv wr => ∃ k : Nat, k ≤ n9 ∧ kv = .int .i64 k ∧ Hid (Below w7.heap.size w7 wr)) (fun kv _ => n9 - (intOf kv).toNat)
                      case atStart => exact ⟨0, by omega, rfl, Lib.hid (Below.refl _ _)⟩
                      case round =>
                        rename World => wq
                        obtain ⟨k, hk, rfl, hh2⟩ := hrel
                        by_cases hkn : k < n9
                        · have hk1 : (k : Int) < (n9 : Int) := by omega
                          have HQk := Lib.hid (HQf.out.go hh2.out)
                          obtain ⟨b9, o9, hv, hvE, e9, hb9, g9⟩ := (HK9.out.go hh2.out).han_at hkn
                          subst e9
                          have hmem := List.mem_of_getElem? hvE
                          have HUV := Lib.hid (HLf.out.ev hv hmem).1
                          have HRS := Lib.hid (resS_any wq _ 1 p N tf hv HQk.out.tb HLf.out.wf hN4 HUV.out)
                          unfold RsE at HRS
                          have hres := HLf.out.res hN4 hmem
                          clear hvE hmem hb9
                          rcases hres with ⟨hr0, y, hyL, hyh, hyV⟩ | ⟨hr0, hno⟩
                          · rw [hr0, hyV] at HRS
                            unfold enV at HRS
                            have HY : Hid (∀ x ∈ Lf, x.h = hv → x = y) := Lib.hid (fun x hx e => HLf.out.only hN4 hx hyL (by rw [e, hyh]))
                            have HAN : Hid ((Lf.any fun x => x.h == hv) = true) := Lib.hid (List.any_eq_true.2 ⟨y, hyL, by simpa using hyh⟩)
                            clear hr0 hyL hyh hyV
                            go_wp2_with fail
                            refine HRS.out.mono ?_
                            rintro e w4 ⟨rfl, hb4⟩
                            have hb5 : Below wq.heap.size wq (w4.alloc (.cells #[.int .u64 y.h, .int .i64 y.o, .int .i64 y.t, .int .i64 y.f, .int .i64 y.l] 44)) := hb4.alloc hb4.size _
                            have HB5 := Lib.hid (Below.then hh2.out hb5 (Nat.le_refl _))
                            have HK95 := Lib.hid ((HK9.out.go hh2.out).go hb5)
                            have HK105 := Lib.hid ((HK10.out.go hh2.out).go hb5)
                            have HX5 := Lib.hid (EnB.new (w := w4) (h := y.h) (o := y.o) (t := y.t) (f := y.f) (l := y.l))
                            have G9 := Lib.hid ((hb5.cell (p := ⟨b9, o9 + k, none⟩) (lt_of_some g9)).trans g9)
                            clear hb4 hb5 HRS hh2 g9
                            go_wp2
                            generalize w4.alloc (.cells #[.int .u64 y.h, .int .i64 y.o, .int .i64 y.t, .int .i64 y.f, .int .i64 y.l] 44) = w5 at *
                            generalize w4.heap.size = bx5 at *
                            go_loopw [24, 175] (fun mt jv wr => ∃ j : Nat, j ≤ n7 ∧ jv = .int .i64 j ∧ (∃ mb : Bool, mt = .bool mb ∧ Hid (mb = (Lf.take j).any fun x => x.h == hv)) ∧ Hid (Below w5.heap.size w5 wr)) (fun _ jv _ => n7 - (intOf jv).toNat)
                            case atStart => exact ⟨0, by omega, rfl, ⟨false, rfl, Lib.hid (by simp)⟩, Lib.hid (Below.refl _ _)⟩
                            case round =>
                              rename World => ws
                              obtain ⟨j, hj, rfl, ⟨mb, rfl, hmb⟩, hh3⟩ := hrel
                              by_cases hjn : j < n7
                              · have hj1 : (j : Int) < (n7 : Int) := by omega
                                obtain ⟨b10, o10, x, hxL, e10, hb10, f0, f1, f2, f3, f4⟩ := (HK105.out.go hh3.out).en_at hjn
                                subst e10
                                have q9 := (hh3.out.cell (p := ⟨b9, o9 + k, none⟩) (lt_of_some G9.out)).trans G9.out
                                obtain ⟨r0, r1, r2, r3, r4⟩ := (HX5.out.go hh3.out).cells
                                have HNX := Lib.hid (any_next (h := hv) hxL)
                                have hxm := List.mem_of_getElem? hxL
                                have HB := Lib.hid hh3.out
                                have HMB := Lib.hid hmb.out
                                clear hxL hb10 hh3 hmb
                                cases mb
                                · by_cases hxh : x.h = hv
                                  · obtain rfl := HY.out x hxm hxh
                                    have hxb : (x.h == hv) = true := by simpa using hxh
                                    have heq := same_en x.h x.o x.t x.f x.l
                                    have HN2 : Hid (((Lf.take (j + 1)).any fun x => x.h == hv) = true) := Lib.hid (by rw [HNX.out, hxb, Bool.or_true])
                                    clear hxm
                                    go_wp2
                                    go_quiet (fail)
                                    have HB2 := Lib.hid (Below.then HB.out (below_drewN (Below.refl ws.heap.size ws) nq) (Nat.le_refl _))
                                    clear f0 f1 f2 f3 f4 r0 r1 r2 r3 r4 q9 HB
                                    go_wp2
                                    go_roundw
                                    case rel => exact ⟨j + 1, by omega, by go_num, ⟨true, rfl, Lib.hid HN2.out.symm⟩, HB2⟩
                                    case measure => simp [intOf]; omega
                                  · have hxb : (x.h == hv) = false := by simpa using hxh
                                    have HN2 : Hid (((Lf.take (j + 1)).any fun x => x.h == hv) = false) := Lib.hid (by rw [HNX.out, hxb, ← HMB.out]; rfl)
                                    clear hxm
                                    go_wp2
                                    go_quiet (fail)
                                    have HB2 := Lib.hid (Below.then HB.out (below_drewN (Below.refl ws.heap.size ws) nq) (Nat.le_refl _))
                                    clear f0 f1 f2 f3 f4 r0 r1 r2 r3 r4 q9 HB
                                    go_wp2
                                    go_roundw
                                    case rel => exact ⟨j + 1, by omega, by go_num, ⟨false, rfl, Lib.hid HN2.out.symm⟩, HB2⟩
                                    case measure => simp [intOf]; omega
                                · have HN2 : Hid (((Lf.take (j + 1)).any fun x => x.h == hv) = true) := Lib.hid (by rw [HNX.out, ← HMB.out, Bool.true_or])
                                  clear hxm
                                  go_wp2
                                  go_quiet (fail)
                                  have HB2 := Lib.hid (Below.then HB.out (below_drewN (Below.refl ws.heap.size ws) nq) (Nat.le_refl _))
                                  clear f0 f1 f2 f3 f4 r0 r1 r2 r3 r4 q9 HB
                                  go_wp2
                                  go_roundw
                                  case rel => exact ⟨j + 1, by omega, by go_num, ⟨true, rfl, Lib.hid HN2.out.symm⟩, HB2⟩
                                  case measure => simp [intOf]; omega
                              · obtain rfl : j = n7 := by omega
                                have hjj : ¬ (j : Int) < (j : Int) := by omega
                                obtain rfl : mb = true := by
                                  have h1 := hmb.out
                                  rw [List.take_of_length_le (by rw [← HLl.out]; exact Nat.le_refl _), HAN.out] at h1
                                  exact h1
                                have HB6 := Lib.hid (Below.then HB5.out hh3.out (Nat.le_refl _))
                                clear hh3 hmb
                                go_wp2
                                go_roundw
                                case rel => exact ⟨k + 1, by omega, by go_num, HB6⟩
                                case measure => simp [intOf]; omega
                          · have hrv : tf.resV hv = En.z := if_neg (by rw [hr0]; omega)
                            rw [hr0, hrv] at HRS
                            unfold enV En.z at HRS
                            simp only at HRS
                            have HNO := Lib.hid hno
                            have HAN : Hid ((Lf.any fun x => x.h == hv) = false) := Lib.hid (by
                              rw [List.any_eq_false]
                              intro x hx
                              simpa using hno x hx)
                            clear hr0 hno hrv
                            go_wp2_with fail
                            refine HRS.out.mono ?_
                            rintro e w4 ⟨rfl, hb4⟩
                            have hb5 : Below wq.heap.size wq (w4.alloc (.cells #[.int .u64 0, .int .i64 0, .int .i64 0, .int .i64 0, .int .i64 0] 44)) := hb4.alloc hb4.size _
                            have HB5 := Lib.hid (Below.then hh2.out hb5 (Nat.le_refl _))
                            have HK95 := Lib.hid ((HK9.out.go hh2.out).go hb5)
                            have HK105 := Lib.hid ((HK10.out.go hh2.out).go hb5)
                            have HX5 := Lib.hid (EnB.new (w := w4) (h := 0) (o := 0) (t := 0) (f := 0) (l := 0))
                            have G9 := Lib.hid ((hb5.cell (p := ⟨b9, o9 + k, none⟩) (lt_of_some g9)).trans g9)
                            clear hb4 hb5 HRS hh2 g9
                            go_wp2
                            generalize w4.alloc (.cells #[.int .u64 0, .int .i64 0, .int .i64 0, .int .i64 0, .int .i64 0] 44) = w5 at *
                            generalize w4.heap.size = bx5 at *
                            go_loopw [24, 175] (fun mt jv wr => ∃ j : Nat, j ≤ n7 ∧ jv = .int .i64 j ∧ (∃ mb : Bool, mt = .bool mb ∧ Hid (mb = (Lf.take j).any fun x => x.h == hv)) ∧ Hid (Below w5.heap.size w5 wr)) (fun _ jv _ => n7 - (intOf jv).toNat)
                            case atStart => exact ⟨0, by omega, rfl, ⟨false, rfl, Lib.hid (by simp)⟩, Lib.hid (Below.refl _ _)⟩
                            case round =>
                              rename World => ws
                              obtain ⟨j, hj, rfl, ⟨mb, rfl, hmb⟩, hh3⟩ := hrel
                              by_cases hjn : j < n7
                              · have hj1 : (j : Int) < (n7 : Int) := by omega
                                obtain ⟨b10, o10, x, hxL, e10, hb10, f0, f1, f2, f3, f4⟩ := (HK105.out.go hh3.out).en_at hjn
                                subst e10
                                have q9 := (hh3.out.cell (p := ⟨b9, o9 + k, none⟩) (lt_of_some G9.out)).trans G9.out
                                obtain ⟨r0, r1, r2, r3, r4⟩ := (HX5.out.go hh3.out).cells
                                have HNX := Lib.hid (any_next (h := hv) hxL)
                                have hxm := List.mem_of_getElem? hxL
                                have HB := Lib.hid hh3.out
                                have HMB := Lib.hid hmb.out
                                clear hxL hb10 hh3 hmb
                                cases mb
                                · by_cases hxh : x.h = hv
                                  · exact absurd hxh (HNO.out x hxm)
                                  · have hxb : (x.h == hv) = false := by simpa using hxh
                                    have HN2 : Hid (((Lf.take (j + 1)).any fun x => x.h == hv) = false) := Lib.hid (by rw [HNX.out, hxb, ← HMB.out]; rfl)
                                    clear hxm
                                    go_wp2
                                    go_quiet (fail)
                                    have HB2 := Lib.hid (Below.then HB.out (below_drewN (Below.refl ws.heap.size ws) nq) (Nat.le_refl _))
                                    clear f0 f1 f2 f3 f4 r0 r1 r2 r3 r4 q9 HB
                                    go_wp2
                                    go_roundw
                                    case rel => exact ⟨j + 1, by omega, by go_num, ⟨false, rfl, Lib.hid HN2.out.symm⟩, HB2⟩
                                    case measure => simp [intOf]; omega
                                · have HN2 : Hid (((Lf.take (j + 1)).any fun x => x.h == hv) = true) := Lib.hid (by rw [HNX.out, ← HMB.out, Bool.true_or])
                                  clear hxm
                                  go_wp2
                                  go_quiet (fail)
                                  have HB2 := Lib.hid (Below.then HB.out (below_drewN (Below.refl ws.heap.size ws) nq) (Nat.le_refl _))
                                  clear f0 f1 f2 f3 f4 r0 r1 r2 r3 r4 q9 HB
                                  go_wp2
                                  go_roundw
                                  case rel => exact ⟨j + 1, by omega, by go_num, ⟨true, rfl, Lib.hid HN2.out.symm⟩, HB2⟩
                                  case measure => simp [intOf]; omega
                              · obtain rfl : j = n7 := by omega
                                have hjj : ¬ (j : Int) < (j : Int) := by omega
                                obtain rfl : mb = false := by
                                  have h1 := hmb.out
                                  rw [List.take_of_length_le (by rw [← HLl.out]; exact Nat.le_refl _), HAN.out] at h1
                                  exact h1
                                have HB6 := Lib.hid (Below.then HB5.out hh3.out (Nat.le_refl _))
                                clear hh3 hmb
                                go_wp2
                                go_roundw
                                case rel => exact ⟨k + 1, by omega, by go_num, HB6⟩
                                case measure => simp [intOf]; omega
                        · obtain rfl : k = n9 := by omega
                          have HV := Lib.hid (show Qv w N p (.slice A9 k c9) (.slice A7 n7 c7) wq from ⟨Below.then HBf.out hh2.out (Nat.le_refl _), _, _, _, _, HQf.out.go hh2.out, HLf.out⟩)
                          have hkk : ¬ (k : Int) < (k : Int) := by omega
                          clear hh2
                          go_wp2
                          go_roundw
                          case rel => exact ⟨i + 1, by omega, by omega, by go_num, _, _, _, _, _, _, rfl, rfl, by omega, by omega, HV⟩
                          case measure => simp [intOf]; omega
              · have hN3 : t.drpN hv = t := if_neg (by rw [hr0]; omega)
                rw [hr0, hN3] at HDP
                have HNOT := Lib.hid hno
                clear hr0 hno hN3
                go_wp2_with fail
                generalize wr.alloc (.cells #[.int .u16 x0, .int .u16 x1, .int .u16 x2, .int .u16 x3] 36) = w1 at *
                generalize wr.heap.size = bx at *
                refine HDP.out.mono ?_
                rintro e w3 ⟨rfl, hT3, hk3⟩
                have HQ3 := Lib.hid (HQ1.out.call hT3 hk3)
                have HB3 := Lib.hid (HB1.out.trans (HQ1.out.below (Kz.ofKept hk3 (by omega))))
                have HFIN : Hid (Qv w N p (.slice (some ⟨b9, o9, none⟩) n9 c9) (.slice A10 n10 c10) w3) := Lib.hid ⟨HB3.out, _, _, _, _, HQ3.out, HL.out⟩
                generalize rc (rc c bx 0) w1.heap.size 1 = c3 at *
                obtain ⟨_, _, _, e10, hk10⟩ := HQ3.out.lv.1.shape
                cases e10
                have HK10 := Lib.hid hk10
                clear hT3 hk3 HDP hk10 HX1 HQ1 HB1 HC1 HL y0 y1 y2 y3 g9 HK9 HE9
                go_wp2
                go_loopw [19, 130] (fun kv jv wr => ∃ j : Nat, j ≤ n10 ∧ jv = .int .i64 j ∧ kv = .int .i64 (-1) ∧ wr = w3) (fun _ jv _ => n10 - (intOf jv).toNat)
                case atStart => exact ⟨0, by omega, rfl, rfl, rfl⟩
                case round =>
                  obtain ⟨j, hj, rfl, rfl, hw3⟩ := hrel
                  subst hw3
                  rename World => w3
                  by_cases hjn : j < n10
                  · have hj1 : (j : Int) < (n10 : Int) := by omega
                    obtain ⟨b10, o10, x, hxL, e10, hb10, f0, f1, f2, f3, f4⟩ := HK10.out.en_at hjn
                    subst e10
                    have hxb : (x.h == hv) = false := by simpa using HNOT.out x (List.mem_of_getElem? hxL)
                    clear hxL hb10
                    go_wp2
                    go_roundw
                    case rel => exact ⟨j + 1, by omega, by go_num, rfl, trivial⟩
                    case measure => simp [intOf]; omega
                  · obtain rfl : n10 = j := by omega
                    have hjj : ¬ (n10 : Int) < (n10 : Int) := by omega
                    have hn10' : n10 ≤ i + 1 := by omega
                    have hn9' : n9 ≤ i + 1 := by omega
                    clear HQ3 HB3 HNOT HK10
                    generalize hA9 : (some ⟨b9, o9, none⟩ : Option Addr) = A9 at *
                    clear hA9
                    as_aux_lemma =>
                      obtain ⟨hBf, cf, tf, Ef, Lf, hQf, hLf⟩ := HFIN.out
                      have HBf := Lib.hid hBf
                      have HQf := Lib.hid hQf
                      have HLf := Lib.hid hLf
                      have hEl : n9 = Ef.length := hQf.ev.1.num
                      have hLl : n10 = Lf.length := hQf.lv.1.num
                      obtain ⟨_, _, _, e9, hk9⟩ := hQf.ev.1.shape
                      cases e9
                      obtain ⟨_, _, _, e10, hk10⟩ := hQf.lv.1.shape
                      cases e10
                      have HK9 := Lib.hid hk9
                      have HK10 := Lib.hid hk10
                      have hcap9 := hk9.cap
                      have hsm9 := hk9.small
                      have hcap10 := hk10.cap
                      have hsm10 := hk10.small
                      unfold maxLen at hsm9 hsm10
                      have HEl := Lib.hid hEl
                      have HLl := Lib.hid hLl
                      clear hBf hQf hLf hk9 hk10 hEl hLl
                      go_wp2
                      go_loopw [161] (fun kv wr => ∃ k : Nat, k ≤ n9 ∧ kv = .int .i64 k ∧ Hid (Below w3.heap.size w3 wr)) (fun kv _ => n9 - (intOf kv).toNat)
                      case atStart => exact ⟨0, by omega, rfl, Lib.hid (Below.refl _ _)⟩
                      case round =>
                        rename World => wq
                        obtain ⟨k, hk, rfl, hh2⟩ := hrel
                        by_cases hkn : k < n9
                        · have hk1 : (k : Int) < (n9 : Int) := by omega
                          have HQk := Lib.hid (HQf.out.go hh2.out)
                          obtain ⟨b9, o9, hv, hvE, e9, hb9, g9⟩ := (HK9.out.go hh2.out).han_at hkn
                          subst e9
                          have hmem := List.mem_of_getElem? hvE
                          have HUV := Lib.hid (HLf.out.ev hv hmem).1
                          have HRS := Lib.hid (resS_any wq _ 1 p N tf hv HQk.out.tb HLf.out.wf hN4 HUV.out)
                          unfold RsE at HRS
                          have hres := HLf.out.res hN4 hmem
                          clear hvE hmem hb9
                          rcases hres with ⟨hr0, y, hyL, hyh, hyV⟩ | ⟨hr0, hno⟩
                          · rw [hr0, hyV] at HRS
                            unfold enV at HRS
                            have HY : Hid (∀ x ∈ Lf, x.h = hv → x = y) := Lib.hid (fun x hx e => HLf.out.only hN4 hx hyL (by rw [e, hyh]))
                            have HAN : Hid ((Lf.any fun x => x.h == hv) = true) := Lib.hid (List.any_eq_true.2 ⟨y, hyL, by simpa using hyh⟩)
                            clear hr0 hyL hyh hyV
                            go_wp2_with fail
                            refine HRS.out.mono ?_
                            rintro e w4 ⟨rfl, hb4⟩
                            have hb5 : Below wq.heap.size wq (w4.alloc (.cells #[.int .u64 y.h, .int .i64 y.o, .int .i64 y.t, .int .i64 y.f, .int .i64 y.l] 44)) := hb4.alloc hb4.size _
                            have HB5 := Lib.hid (Below.then hh2.out hb5 (Nat.le_refl _))
                            have HK95 := Lib.hid ((HK9.out.go hh2.out).go hb5)
                            have HK105 := Lib.hid ((HK10.out.go hh2.out).go hb5)
                            have HX5 := Lib.hid (EnB.new (w := w4) (h := y.h) (o := y.o) (t := y.t) (f := y.f) (l := y.l))
                            have G9 := Lib.hid ((hb5.cell (p := ⟨b9, o9 + k, none⟩) (lt_of_some g9)).trans g9)
                            clear hb4 hb5 HRS hh2 g9
                            go_wp2
                            generalize w4.alloc (.cells #[.int .u64 y.h, .int .i64 y.o, .int .i64 y.t, .int .i64 y.f, .int .i64 y.l] 44) = w5 at *
                            generalize w4.heap.size = bx5 at *
                            go_loopw [24, 175] (fun mt jv wr => ∃ j : Nat, j ≤ n10 ∧ jv = .int .i64 j ∧ (∃ mb : Bool, mt = .bool mb ∧ Hid (mb = (Lf.take j).any fun x => x.h == hv)) ∧ Hid (Below w5.heap.size w5 wr)) (fun _ jv _ => n10 - (intOf jv).toNat)
                            case atStart => exact ⟨0, by omega, rfl, ⟨false, rfl, Lib.hid (by simp)⟩, Lib.hid (Below.refl _ _)⟩
                            case round =>
                              rename World => ws
                              obtain ⟨j, hj, rfl, ⟨mb, rfl, hmb⟩, hh3⟩ := hrel
                              by_cases hjn : j < n10
                              · have hj1 : (j : Int) < (n10 : Int) := by omega
                                obtain ⟨b10, o10, x, hxL, e10, hb10, f0, f1, f2, f3, f4⟩ := (HK105.out.go hh3.out).en_at hjn
                                subst e10
                                have q9 := (hh3.out.cell (p := ⟨b9, o9 + k, none⟩) (lt_of_some G9.out)).trans G9.out
                                obtain ⟨r0, r1, r2, r3, r4⟩ := (HX5.out.go hh3.out).cells
                                have HNX := Lib.hid (any_next (h := hv) hxL)
                                have hxm := List.mem_of_getElem? hxL
                                have HB := Lib.hid hh3.out
                                have HMB := Lib.hid hmb.out
                                clear hxL hb10 hh3 hmb
                                cases mb
                                · by_cases hxh : x.h = hv
                                  · obtain rfl := HY.out x hxm hxh
                                    have hxb : (x.h == hv) = true := by simpa using hxh
                                    have heq := same_en x.h x.o x.t x.f x.l
                                    have HN2 : Hid (((Lf.take (j + 1)).any fun x => x.h == hv) = true) := Lib.hid (by rw [HNX.out, hxb, Bool.or_true])
                                    clear hxm
                                    go_wp2
                                    go_quiet (fail)
                                    have HB2 := Lib.hid (Below.then HB.out (below_drewN (Below.refl ws.heap.size ws) nq) (Nat.le_refl _))
                                    clear f0 f1 f2 f3 f4 r0 r1 r2 r3 r4 q9 HB
                                    go_wp2
                                    go_roundw
                                    case rel => exact ⟨j + 1, by omega, by go_num, ⟨true, rfl, Lib.hid HN2.out.symm⟩, HB2⟩
                                    case measure => simp [intOf]; omega
                                  · have hxb : (x.h == hv) = false := by simpa using hxh
                                    have HN2 : Hid (((Lf.take (j + 1)).any fun x => x.h == hv) = false) := Lib.hid (by rw [HNX.out, hxb, ← HMB.out]; rfl)
                                    clear hxm
                                    go_wp2
                                    go_quiet (fail)
                                    have HB2 := Lib.hid (Below.then HB.out (below_drewN (Below.refl ws.heap.size ws) nq) (Nat.le_refl _))
                                    clear f0 f1 f2 f3 f4 r0 r1 r2 r3 r4 q9 HB
                                    go_wp2
                                    go_roundw
                                    case rel => exact ⟨j + 1, by omega, by go_num, ⟨false, rfl, Lib.hid HN2.out.symm⟩, HB2⟩
                                    case measure => simp [intOf]; omega
                                · have HN2 : Hid (((Lf.take (j + 1)).any fun x => x.h == hv) = true) := Lib.hid (by rw [HNX.out, ← HMB.out, Bool.true_or])
                                  clear hxm
                                  go_wp2
                                  go_quiet (fail)
                                  have HB2 := Lib.hid (Below.then HB.out (below_drewN (Below.refl ws.heap.size ws) nq) (Nat.le_refl _))
                                  clear f0 f1 f2 f3 f4 r0 r1 r2 r3 r4 q9 HB
                                  go_wp2
                                  go_roundw
                                  case rel => exact ⟨j + 1, by omega, by go_num, ⟨true, rfl, Lib.hid HN2.out.symm⟩, HB2⟩
                                  case measure => simp [intOf]; omega
                              · obtain rfl : j = n10 := by omega
                                have hjj : ¬ (j : Int) < (j : Int) := by omega
                                obtain rfl : mb = true := by
                                  have h1 := hmb.out
                                  rw [List.take_of_length_le (by rw [← HLl.out]; exact Nat.le_refl _), HAN.out] at h1
                                  exact h1
                                have HB6 := Lib.hid (Below.then HB5.out hh3.out (Nat.le_refl _))
                                clear hh3 hmb
                                go_wp2
                                go_roundw
                                case rel => exact ⟨k + 1, by omega, by go_num, HB6⟩
                                case measure => simp [intOf]; omega
                          · have hrv : tf.resV hv = En.z := if_neg (by rw [hr0]; omega)
                            rw [hr0, hrv] at HRS
                            unfold enV En.z at HRS
                            simp only at HRS
                            have HNO := Lib.hid hno
                            have HAN : Hid ((Lf.any fun x => x.h == hv) = false) := Lib.hid (by
                              rw [List.any_eq_false]
                              intro x hx
                              simpa using hno x hx)
                            clear hr0 hno hrv
                            go_wp2_with fail
                            refine HRS.out.mono ?_
                            rintro e w4 ⟨rfl, hb4⟩
                            have hb5 : Below wq.heap.size wq (w4.alloc (.cells #[.int .u64 0, .int .i64 0, .int .i64 0, .int .i64 0, .int .i64 0] 44)) := hb4.alloc hb4.size _
                            have HB5 := Lib.hid (Below.then hh2.out hb5 (Nat.le_refl _))
                            have HK95 := Lib.hid ((HK9.out.go hh2.out).go hb5)
                            have HK105 := Lib.hid ((HK10.out.go hh2.out).go hb5)
                            have HX5 := Lib.hid (EnB.new (w := w4) (h := 0) (o := 0) (t := 0) (f := 0) (l := 0))
                            have G9 := Lib.hid ((hb5.cell (p := ⟨b9, o9 + k, none⟩) (lt_of_some g9)).trans g9)
                            clear hb4 hb5 HRS hh2 g9
                            go_wp2
                            generalize w4.alloc (.cells #[.int .u64 0, .int .i64 0, .int .i64 0, .int .i64 0, .int .i64 0] 44) = w5 at *
                            generalize w4.heap.size = bx5 at *
                            go_loopw [24, 175] (fun mt jv wr => ∃ j : Nat, j ≤ n10 ∧ jv = .int .i64 j ∧ (∃ mb : Bool, mt = .bool mb ∧ Hid (mb = (Lf.take j).any fun x => x.h == hv)) ∧ Hid (Below w5.heap.size w5 wr)) (fun _ jv _ => n10 - (intOf jv).toNat)
                            case atStart => exact ⟨0, by omega, rfl, ⟨false, rfl, Lib.hid (by simp)⟩, Lib.hid (Below.refl _ _)⟩
                            case round =>
                              rename World => ws
                              obtain ⟨j, hj, rfl, ⟨mb, rfl, hmb⟩, hh3⟩ := hrel
                              by_cases hjn : j < n10
                              · have hj1 : (j : Int) < (n10 : Int) := by omega
                                obtain ⟨b10, o10, x, hxL, e10, hb10, f0, f1, f2, f3, f4⟩ := (HK105.out.go hh3.out).en_at hjn
                                subst e10
                                have q9 := (hh3.out.cell (p := ⟨b9, o9 + k, none⟩) (lt_of_some G9.out)).trans G9.out
                                obtain ⟨r0, r1, r2, r3, r4⟩ := (HX5.out.go hh3.out).cells
                                have HNX := Lib.hid (any_next (h := hv) hxL)
                                have hxm := List.mem_of_getElem? hxL
                                have HB := Lib.hid hh3.out
                                have HMB := Lib.hid hmb.out
                                clear hxL hb10 hh3 hmb
                                cases mb
                                · by_cases hxh : x.h = hv
                                  · exact absurd hxh (HNO.out x hxm)
                                  · have hxb : (x.h == hv) = false := by simpa using hxh
                                    have HN2 : Hid (((Lf.take (j + 1)).any fun x => x.h == hv) = false) := Lib.hid (by rw [HNX.out, hxb, ← HMB.out]; rfl)
                                    clear hxm
                                    go_wp2
                                    go_quiet (fail)
                                    have HB2 := Lib.hid (Below.then HB.out (below_drewN (Below.refl ws.heap.size ws) nq) (Nat.le_refl _))
                                    clear f0 f1 f2 f3 f4 r0 r1 r2 r3 r4 q9 HB
                                    go_wp2
                                    go_roundw
                                    case rel => exact ⟨j + 1, by omega, by go_num, ⟨false, rfl, Lib.hid HN2.out.symm⟩, HB2⟩
                                    case measure => simp [intOf]; omega
                                · have HN2 : Hid (((Lf.take (j + 1)).any fun x => x.h == hv) = true) := Lib.hid (by rw [HNX.out, ← HMB.out, Bool.true_or])
                                  clear hxm
                                  go_wp2
                                  go_quiet (fail)
                                  have HB2 := Lib.hid (Below.then HB.out (below_drewN (Below.refl ws.heap.size ws) nq) (Nat.le_refl _))
                                  clear f0 f1 f2 f3 f4 r0 r1 r2 r3 r4 q9 HB
                                  go_wp2
                                  go_roundw
                                  case rel => exact ⟨j + 1, by omega, by go_num, ⟨true, rfl, Lib.hid HN2.out.symm⟩, HB2⟩
                                  case measure => simp [intOf]; omega
                              · obtain rfl : j = n10 := by omega
                                have hjj : ¬ (j : Int) < (j : Int) := by omega
                                obtain rfl : mb = false := by
                                  have h1 := hmb.out
                                  rw [List.take_of_length_le (by rw [← HLl.out]; exact Nat.le_refl _), HAN.out] at h1
                                  exact h1
                                have HB6 := Lib.hid (Below.then HB5.out hh3.out (Nat.le_refl _))
                                clear hh3 hmb
                                go_wp2
                                go_roundw
                                case rel => exact ⟨k + 1, by omega, by go_num, HB6⟩
                                case measure => simp [intOf]; omega
                        · obtain rfl : k = n9 := by omega
                          have HV := Lib.hid (show Qv w N p (.slice A9 k c9) (.slice A10 n10 c10) wq from ⟨Below.then HBf.out hh2.out (Nat.le_refl _), _, _, _, _, HQf.out.go hh2.out, HLf.out⟩)
                          have hkk : ¬ (k : Int) < (k : Int) := by omega
                          clear hh2
                          go_wp2
                          go_roundw
                          case rel => exact ⟨i + 1, by omega, by omega, by go_num, _, _, _, _, _, _, rfl, rfl, by omega, by omega, HV⟩
                          case measure => simp [intOf]; omega
            · have hz9' : ¬ (n9 : Int) > 0 := by omega
              have HFIN : Hid (Qv w N p (.slice A9 n9 c9) (.slice A10 n10 c10) (wr.alloc (.cells #[.int .u16 x0, .int .u16 x1, .int .u16 x2, .int .u16 x3] 36))) := Lib.hid ⟨HB1.out, _, _, _, _, HQ1.out, HL.out⟩
              have hn9' : n9 ≤ i + 1 := by omega
              have hn10' : n10 ≤ i + 1 := by omega
              clear HX1 HQ1 HB1 HC1 HL HK9
              obtain ⟨hBf, cf, tf, Ef, Lf, hQf, hLf⟩ := HFIN.out
              have HBf := Lib.hid hBf
              have HQf := Lib.hid hQf
              have HLf := Lib.hid hLf
              have hEl : n9 = Ef.length := hQf.ev.1.num
              have hLl : n10 = Lf.length := hQf.lv.1.num
              obtain ⟨_, _, _, e9, hk9⟩ := hQf.ev.1.shape
              cases e9
              obtain ⟨_, _, _, e10, hk10⟩ := hQf.lv.1.shape
              cases e10
              have HK9 := Lib.hid hk9
              have HK10 := Lib.hid hk10
              have hcap9 := hk9.cap
              have hsm9 := hk9.small
              have hcap10 := hk10.cap
              have hsm10 := hk10.small
              unfold maxLen at hsm9 hsm10
              have HEl := Lib.hid hEl
              have HLl := Lib.hid hLl
              clear hBf hQf hLf hk9 hk10 hEl hLl
              go_wp2
              clear y0 y1 y2 y3
              generalize wr.alloc (.cells #[.int .u16 x0, .int .u16 x1, .int .u16 x2, .int .u16 x3] 36) = w1 at *
              go_loopw [161] (fun kv wr => ∃ k : Nat, k ≤ n9 ∧ kv = .int .i64 k ∧ Hid (Below w1.heap.size w1 wr)) (fun kv _ => n9 - (intOf kv).toNat)
              case atStart => exact ⟨0, by omega, rfl, Lib.hid (Below.refl _ _)⟩
              case round =>
                rename World => wq
                obtain ⟨k, hk, rfl, hh2⟩ := hrel
                by_cases hkn : k < n9
                · exact absurd hkn (by omega)
                · obtain rfl : k = n9 := by omega
                  have HV := Lib.hid (show Qv w N p (.slice A9 k c9) (.slice A10 n10 c10) wq from ⟨Below.then HBf.out hh2.out (Nat.le_refl _), _, _, _, _, HQf.out.go hh2.out, HLf.out⟩)
                  have hkk : ¬ (k : Int) < (k : Int) := by omega
                  clear hh2
                  go_wp2
                  go_roundw
                  case rel => exact ⟨i + 1, by omega, by omega, by go_num, _, _, _, _, _, _, rfl, rfl, by omega, by omega, HV⟩
                  case measure => simp [intOf]; omega
      · have hi2 : ¬ (i : Int) < 40 := by omega
        have HB := Lib.hid hh.out.1
        clear hh
        go_wp2_with fail
        refine (awake13_any wr).mono ?_
        rintro e w4 ⟨rfl, hb4⟩
        go_wp2
        go_ret
        exact ⟨rfl, Below.then HB.out hb4 (Nat.le_refl _)⟩
    · have hi1 : ¬ (i : Int) < (len2 : Int) := by omega
      have HB := Lib.hid hh.out.1
      clear hh
      go_wp2_with fail
      refine (awake13_any wr).mono ?_
      rintro e w4 ⟨rfl, hb4⟩
      go_wp2
      go_ret
      exact ⟨rfl, Below.then HB.out hb4 (Nat.le_refl _)⟩
end Go.Proofs.Ytaoojgnkbcoggaa
