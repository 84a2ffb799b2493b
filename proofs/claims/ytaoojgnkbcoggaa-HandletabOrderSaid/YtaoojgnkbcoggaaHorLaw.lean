/-
  The law HandletabOrder as a walk: called with any arguments of its types it returns true. No conditions.
-/
import Derived.Test.YtaoojgnkbcoggaaHwl
namespace Go.Proofs.Ytaoojgnkbcoggaa
open Go.ChangeShapes Go.WideShapes Go.RowKit
set_option linter.unusedVariables false
set_option linter.unusedSimpArgs false
set_option maxHeartbeats 8000000
set_option maxRecDepth 100000

theorem or_join2 (a b c : Int) (a0 : 0 ≤ a ∧ a ≤ 16777215) (b0 : 0 ≤ b ∧ b ≤ 4294967295) (c0 : 0 ≤ c ∧ c ≤ 255) :
    bits .or .u64 (bits .or .u64 (c * 72057594037927936) (b * 16777216)) a = word a b c := by
  rw [u64_or (c * 72057594037927936) (b * 16777216) (by omega) (by omega) (by omega) (by omega)]
  have e1 : (c * 72057594037927936).toNat ||| (b * 16777216).toNat = (c * 72057594037927936).toNat + (b * 16777216).toNat := nat_join 56 _ _ (by omega) (by omega)
  rw [e1, u64_or _ a (by omega) (by omega) (by omega) (by omega)]
  have e2 : (((c * 72057594037927936).toNat + (b * 16777216).toNat : Nat) : Int).toNat ||| a.toNat = ((c * 72057594037927936).toNat + (b * 16777216).toNat) + a.toNat := nat_join 24 _ _ (by omega) (by omega)
  rw [e2]
  unfold word
  omega
theorem Ht.resE_giv {t : Ht} {h o : Int} {N : Nat} (H : t.Wf N) (hu : U64 h) : (t.givN h o).resE h = t.resE h := by
  by_cases hg : t.givE h o = 0
  · obtain ⟨j, hj, hjN, hl, hgn, ht, _⟩ := Ht.res_ok H (Ht.giv_ok hg).1 hu
    have es : (t.givN h o).s = t.s := by unfold Ht.givN; rw [if_pos hg]
    have hlen : (t.givN h o).e.length = t.e.length := by unfold Ht.givN; rw [if_pos hg]; simp
    have h1 := (Ht.resE_is (t := t.givN h o) hj (by rw [hlen, H.el]; exact hjN) (by rw [Ht.lv_giv]; exact hl) (by rw [es]; exact hgn) (by
      rw [Ht.en_giv H hg hu, hj, if_pos rfl]
      exact ht)).1
    rw [h1, (Ht.giv_ok hg).1]
  · unfold Ht.givN
    rw [if_neg hg]
/-- The law's table behind its one Issue. -/
theorem one_iss (n : Nat) (d : Int) (hn : 0 < n) (hN : n ≤ 4096) :
    ∃ j : Nat, j < n ∧ (Ht.new n 9).issE 1 3 = 0 ∧ (Ht.new n 9).issH 1 3 d = word j 9 3 ∧ (∀ i, ((Ht.new n 9).issN 1 3 0 0 d).lv i = decide (i = j)) ∧ ((Ht.new n 9).issN 1 3 0 0 d).s.gen.getD j 0 = 9 ∧ (((Ht.new n 9).issN 1 3 0 0 d).en j).t = 3 ∧
      ((Ht.new n 9).issN 1 3 0 0 d).Wf n := by
  have hW : (Ht.new n 9).Wf n := Ht.wf_new (by omega)
  have hf : (Ht.new n 9).s.free ≠ [] := by
    intro e
    have h1 : (rng n).length = n := rng_len
    have h2 : (Ht.new n 9).s.free = rng n := rfl
    rw [h2] at e
    rw [e] at h1
    simp at h1
    omega
  have hok : okO 1 ∧ okT 3 := by unfold okO okT; omega
  obtain ⟨h1, h2⟩ := Ht.iss_yes hok hf d
  obtain ⟨_, _, h3, h4, _⟩ := hW.sl (d := d) hf
  have hnx : ∀ i, (Ht.new n 9).s.nxt i = 9 := fun i => by
    unfold Gs.nxt
    have : (Ht.new n 9).s.gen.getD i 0 = 0 := by
      simp only [Ht.new, Gs.new, List.getD_eq_getElem?_getD, List.getElem?_replicate]
      split <;> rfl
    rw [if_pos this]
    rfl
  have hlv : ∀ i, (Ht.new n 9).lv i = false := fun i => by
    simp only [Ht.lv, Ht.new, Gs.new, List.getD_eq_getElem?_getD, List.getElem?_replicate]
    split <;> rfl
  refine ⟨(Ht.new n 9).slot d, h3, h1, by rw [h2, hnx], fun i => by rw [Ht.lv_issN hW h1, hlv, Bool.or_false], ?_, ?_, hW.iss⟩
  · rw [Ht.issN_ok h1]
    show ((Ht.new n 9).s.issN d).gen.getD _ 0 = 9
    rw [Ht.gen_iss hW hf, if_pos rfl, hnx]
  · rw [Ht.en_issN hW h1, if_pos rfl]
    rfl
def fst2 (e o : Int) : Int := if e = 0 ∧ ¬ okO o then 1 else e
theorem first2_any (e o : Int) (w : World) : Calls Try.prog 23 #[.int .i64 e, .int .i64 o] w fun r w' => r = .returned (.int .i64 (fst2 e o)) ∧ w = w' := by
  by_cases he : e = 0
  · subst he
    by_cases h1 : o < 1
    · have hv : fst2 0 o = 1 := if_pos ⟨rfl, by unfold okO; omega⟩
      rw [hv]
      go_enter Try.func23, Try.ntmps23
      go_wp2
      go_ret
      exact ⟨rfl, rfl⟩
    · by_cases h2 : o > 64
      · have hv : fst2 0 o = 1 := if_pos ⟨rfl, by unfold okO; omega⟩
        rw [hv]
        go_enter Try.func23, Try.ntmps23
        go_wp2
        go_ret
        exact ⟨rfl, rfl⟩
      · have hv : fst2 0 o = 0 := if_neg (by unfold okO; omega)
        rw [hv]
        go_enter Try.func23, Try.ntmps23
        go_wp2
        go_ret
        exact ⟨rfl, rfl⟩
  · have hv : fst2 e o = e := if_neg (by omega)
    have heb : (e == 0) = false := by simpa using he
    rw [hv]
    go_enter Try.func23, Try.ntmps23
    go_wp2
    go_ret
    exact ⟨rfl, rfl⟩
theorem giv_fst2 {t : Ht} {h o : Int} : t.givE h o = fst2 (t.resE h) o := by
  unfold Ht.givE fst2
  by_cases h1 : t.resE h = 0
  · by_cases h2 : okO o
    · rw [if_pos h1, if_pos h2, if_neg (fun e => e.2 h2), h1]
    · rw [if_pos h1, if_neg h2, if_pos ⟨h1, h2⟩]
  · rw [if_neg h1, if_neg (fun e => h1 e.1)]
theorem handletabOrder_walk (a0 a1 a2 a3 a4 : Int) (w : World) (w0 : (Lit.int .u8 a0).wf = true) (w1 : (Lit.int .u16 a1).wf = true) (w2 : (Lit.int .u16 a2).wf = true) (w3 : (Lit.int .u8 a3).wf = true) (w4 : (Lit.int .u8 a4).wf = true) :
    Calls Try.prog 6 #[.int .u8 a0, .int .u16 a1, .int .u16 a2, .int .u8 a3, .int .u8 a4] w fun e w' => e = .returned (.bool true) ∧ Below w.heap.size w w' := by
  have b0 := byte_bd w0
  have b1 := u16_bd w1
  have b2 := u16_bd w2
  have b3 := byte_bd w3
  have b4 := byte_bd w4
  obtain ⟨n, hn⟩ : ∃ n : Nat, 1 + a0 % 5 = (n : Int) := ⟨(1 + a0 % 5).toNat, by omega⟩
  obtain ⟨s, hs⟩ : ∃ s : Nat, a1 % 8 = (s : Int) := ⟨(a1 % 8).toNat, by omega⟩
  obtain ⟨g, hg⟩ : ∃ g : Int, 8 + a2 % 3 = g := ⟨_, rfl⟩
  obtain ⟨k, hk⟩ : ∃ k : Int, 2 + a3 % 3 = k := ⟨_, rfl⟩
  have n1 : 1 ≤ n ∧ n ≤ 5 := by omega
  have s1 : s ≤ 7 := by omega
  have g1 : 8 ≤ g ∧ g ≤ 10 := by omega
  have k1 : 2 ≤ k ∧ k ≤ 4 := by omega
  have m0 : 0 ≤ a0 % 5 ∧ a0 % 5 < 5 := by omega
  have m1 : 0 ≤ a1 % 8 ∧ a1 % 8 < 8 := by omega
  have m2 : 0 ≤ a2 % 3 ∧ a2 % 3 < 3 := by omega
  have m3 : 0 ≤ a3 % 3 ∧ a3 % 3 < 3 := by omega
  have hor := or_join2 s g k ⟨by omega, by omega⟩ ⟨by omega, by omega⟩ ⟨by omega, by omega⟩
  have hu : U64 (word s g k) := word_bd ⟨by omega, by omega⟩ ⟨by omega, by omega⟩ ⟨by omega, by omega⟩
  have hws : wSl (word s g k) = (s : Int) := word_slot ⟨by omega, by omega⟩
  have hwg : wGn (word s g k) = g := word_gen ⟨by omega, by omega⟩ ⟨by omega, by omega⟩
  have hwt : wTg (word s g k) = k := word_tag ⟨by omega, by omega⟩ ⟨by omega, by omega⟩
  obtain ⟨j, hjn, hE1, hH1, hlv, hgn, htg, hW⟩ := one_iss n a4 (by omega) (by omega)
  have hjs : wSl (word j 9 3) = (j : Int) := word_slot ⟨by omega, by omega⟩
  have hju : U64 (word j 9 3) := word_bd ⟨by omega, by omega⟩ ⟨by omega, by omega⟩ ⟨by omega, by omega⟩
  have HN := Lib.hid (newT_any (1 + a0 % 5) 9 w (fun _ => 0) 1)
  unfold NwE at HN
  rw [hn, Int.toNat_natCast] at HN
  have HNS : Hid (nsE (n : Int) 9 = 0) := Lib.hid (if_neg (by omega))
  have HW0 : Hid ((Ht.new n 9).Wf n) := Lib.hid (Ht.wf_new (by omega))
  have HSJ := Lib.hid (fun W => slotR_any (word j 9 3) hju W)
  rw [hjs] at HSJ
  have HI : Hid (∀ W C p, Htb W C 1 p (Ht.new n 9) → Calls Try.prog 21 #[.pointer (some ⟨p, 0, none⟩), .int .i64 1, .int .i64 3, .agg #[.int .i64 0, .int .i64 0], .int .u64 a4] W (IsE Htb W C 1 p (Ht.new n 9) 1 3 0 0 a4)) := Lib.hid (fun W C p h => issT_any W C 1 p n _ 1 3 0 0 a4 h HW0.out (by omega) (by omega))
  unfold IsE at HI
  rw [hE1, hH1] at HI
  obtain ⟨T, hT⟩ : ∃ T, (Ht.new n 9).issN 1 3 0 0 a4 = T := ⟨_, rfl⟩
  rw [hT] at HI hlv hgn htg hW
  have HW := Lib.hid hW
  have hTl : T.e.length = n := hW.el
  by_cases hsn : n ≤ s
  · have hRE : T.resE (word s g k) = 10 := Ht.resE_slot (by rw [hTl, hws]; omega)
    have hc : (s : Int) ≥ (n : Int) := by omega
    obtain ⟨wd, hwd⟩ : ∃ wd, word s g k = wd := ⟨_, rfl⟩
    rw [hwd] at hor hu hRE
    have HU := Lib.hid hu
    have HRE := Lib.hid hRE
    have HGE : Hid (T.givE wd a4 = fst2 10 a4) := Lib.hid (by rw [giv_fst2, HRE.out])
    have HRG : Hid ((T.givN wd a4).resE wd = 10) := Lib.hid (by rw [Ht.resE_giv HW.out HU.out, HRE.out])
    obtain ⟨fv, hfv⟩ : ∃ fv, fst2 10 a4 = fv := ⟨_, rfl⟩
    rw [hfv] at HGE
    have HFV := Lib.hid (fun W => first2_any 10 a4 W)
    rw [hfv] at HFV
    generalize word j 9 3 = wj at *
    clear w0 w1 w2 w3 w4 hu hws hwg hwt hwd hW hlv hgn htg hTl hT hE1 hH1 hjs hju hRE hfv
    go_enter Try.func6, Try.ntmps6
    go_wp2_with fail
    refine HN.out.mono ?_
    rintro e wa (⟨h1, _⟩ | ⟨_, p, rfl, hp, hS, hba⟩)
    · have := HNS.out
      omega
    have HS := Lib.hid hS
    have HBA := Lib.hid hba
    clear HN hS hba
    go_wp2_with fail
    refine (HI.out wa _ p HS.out).mono ?_
    rintro e wb ⟨rfl, hT2, hk2⟩
    have HT2 := Lib.hid hT2
    have HBB : Hid (Below w.heap.size w wb) := Lib.hid (HBA.out.trans (hk2.below (fun g hg => by rw [rc_old hg]; omega) HBA.out.size))
    have HC2 : Hid (∀ g, g < w.heap.size → rc (rc (fun _ => 0) w.heap.size 1) wa.heap.size 1 g = 0) := Lib.hid (fun g hg => by rw [rc_old (by have := HBA.out.size; omega), rc_old hg])
    generalize rc (rc (fun _ => 0) w.heap.size 1) wa.heap.size 1 = c2 at *
    have HR := Lib.hid (resS_any wb c2 1 p n T wd hT2 HW.out (by omega) HU.out)
    unfold RsE at HR
    rw [HRE.out] at HR
    obtain ⟨⟨v1, v2, v3, v4, v5⟩, hv⟩ : ∃ v, T.resV wd = v := ⟨_, rfl⟩
    rw [hv] at HR
    unfold enV at HR
    simp only at HR
    clear hT2 hk2 HI HS HBA hv
    go_wp2_with fail
    try rw [hor]
    refine HR.out.mono ?_
    rintro e wc ⟨rfl, hbc⟩
    have hbd : Below wb.heap.size wb (wc.alloc (.cells #[.int .u64 v1, .int .i64 v2, .int .i64 v3, .int .i64 v4, .int .i64 v5] 44)) := hbc.alloc hbc.size _
    have HT3 := Lib.hid (HT2.out.go hbd)
    have HBC := Lib.hid (Below.then HBB.out hbd (Nat.le_refl _))
    clear hbc hbd HR HT2 HBB
    go_wp2_with fail
    refine (awake13_any _).mono ?_
    generalize wc.alloc (.cells #[.int .u64 v1, .int .i64 v2, .int .i64 v3, .int .i64 v4, .int .i64 v5] 44) = w3 at *
    rintro e w4 ⟨rfl, hb4⟩
    have HT4 := Lib.hid (HT3.out.go hb4)
    have HB4 := Lib.hid (Below.then HBC.out hb4 (Nat.le_refl _))
    have HG := Lib.hid (givT_any w4 c2 1 p n T wd a4 HT4.out HW.out (by omega) HU.out)
    unfold DpE at HG
    rw [HGE.out] at HG
    clear hb4 HT3 HBC
    go_wp2_with fail
    refine HG.out.mono ?_
    rintro e w5 ⟨rfl, hT5, hk5⟩
    have HB5 : Hid (Below w.heap.size w w5) := Lib.hid (HB4.out.trans (hk5.below (fun g hg => by rw [HC2.out g hg]; omega) HB4.out.size))
    have HD := Lib.hid (drpT_any w5 _ 1 p n _ wd hT5 (HW.out.giv HU.out) (by omega) HU.out)
    unfold DpE at HD
    rw [HRG.out] at HD
    have HC5 : Hid (∀ g, g < w.heap.size → rc c2 w4.heap.size 1 g = 0) := Lib.hid (fun g hg => by rw [rc_old (by have := HB4.out.size; omega)]; exact HC2.out g hg)
    clear hT5 hk5 HG HT4 HB4
    go_wp2_with fail
    refine (HFV.out _).mono ?_
    rintro e w6 ⟨rfl, rfl⟩
    go_wp2_with fail
    refine HD.out.mono ?_
    rintro e w7 ⟨rfl, _, hk7⟩
    have HB7 : Hid (Below w.heap.size w w7) := Lib.hid (HB5.out.trans (hk7.below (fun g hg => by rw [HC5.out g hg]; omega) HB5.out.size))
    clear hk7 HD
    go_wp2
    go_ret
    exact ⟨rfl, HB7.out⟩
  · have hc : ¬ (s : Int) ≥ (n : Int) := by omega
    have hsl : s < T.e.length := by omega
    by_cases hsj : s = j
    · subst hsj
      have hl : T.lv s = true := by rw [hlv]; simp
      by_cases hg9 : g = 9
      · by_cases hk3 : k = 3
        · have hRE : T.resE (word s g k) = 0 := (Ht.resE_is hws hsl hl (by rw [hwg, hgn, hg9]) (by rw [hwt, htg, hk3])).1
          have hkb : (k != 3) = false := by simpa using hk3
          have hgb : (g != 9) = false := by simpa using hg9
          clear hk3 hg9
          obtain ⟨wd, hwd⟩ : ∃ wd, word s g k = wd := ⟨_, rfl⟩
          rw [hwd] at hor hu hRE
          have HU := Lib.hid hu
          have HRE := Lib.hid hRE
          have HGE : Hid (T.givE wd a4 = fst2 0 a4) := Lib.hid (by rw [giv_fst2, HRE.out])
          have HRG : Hid ((T.givN wd a4).resE wd = 0) := Lib.hid (by rw [Ht.resE_giv HW.out HU.out, HRE.out])
          obtain ⟨fv, hfv⟩ : ∃ fv, fst2 0 a4 = fv := ⟨_, rfl⟩
          rw [hfv] at HGE
          have HFV := Lib.hid (fun W => first2_any 0 a4 W)
          rw [hfv] at HFV
          generalize word (s : Int) 9 3 = wj at *
          clear w0 w1 w2 w3 w4 hu hws hwg hwt hwd hW hlv hgn htg hTl hT hE1 hH1 hjs hju hRE hfv
          go_enter Try.func6, Try.ntmps6
          go_wp2_with fail
          refine HN.out.mono ?_
          rintro e wa (⟨h1, _⟩ | ⟨_, p, rfl, hp, hS, hba⟩)
          · have := HNS.out
            omega
          have HS := Lib.hid hS
          have HBA := Lib.hid hba
          clear HN hS hba
          go_wp2_with fail
          refine (HI.out wa _ p HS.out).mono ?_
          rintro e wb ⟨rfl, hT2, hk2⟩
          have HT2 := Lib.hid hT2
          have HBB : Hid (Below w.heap.size w wb) := Lib.hid (HBA.out.trans (hk2.below (fun g hg => by rw [rc_old hg]; omega) HBA.out.size))
          have HC2 : Hid (∀ g, g < w.heap.size → rc (rc (fun _ => 0) w.heap.size 1) wa.heap.size 1 g = 0) := Lib.hid (fun g hg => by rw [rc_old (by have := HBA.out.size; omega), rc_old hg])
          generalize rc (rc (fun _ => 0) w.heap.size 1) wa.heap.size 1 = c2 at *
          have HR := Lib.hid (resS_any wb c2 1 p n T wd hT2 HW.out (by omega) HU.out)
          unfold RsE at HR
          rw [HRE.out] at HR
          obtain ⟨⟨v1, v2, v3, v4, v5⟩, hv⟩ : ∃ v, T.resV wd = v := ⟨_, rfl⟩
          rw [hv] at HR
          unfold enV at HR
          simp only at HR
          clear hT2 hk2 HI HS HBA hv
          go_wp2_with fail
          try rw [hor]
          refine HR.out.mono ?_
          rintro e wc ⟨rfl, hbc⟩
          have hbd : Below wb.heap.size wb (wc.alloc (.cells #[.int .u64 v1, .int .i64 v2, .int .i64 v3, .int .i64 v4, .int .i64 v5] 44)) := hbc.alloc hbc.size _
          have HT3 := Lib.hid (HT2.out.go hbd)
          have HBC := Lib.hid (Below.then HBB.out hbd (Nat.le_refl _))
          clear hbc hbd HR HT2 HBB
          go_wp2_with fail
          refine (HSJ.out _).mono ?_
          rintro e w2 ⟨rfl, rfl⟩
          go_wp2_with fail
          refine (awake13_any _).mono ?_
          generalize wc.alloc (.cells #[.int .u64 v1, .int .i64 v2, .int .i64 v3, .int .i64 v4, .int .i64 v5] 44) = w3 at *
          rintro e w4 ⟨rfl, hb4⟩
          have HT4 := Lib.hid (HT3.out.go hb4)
          have HB4 := Lib.hid (Below.then HBC.out hb4 (Nat.le_refl _))
          have HG := Lib.hid (givT_any w4 c2 1 p n T wd a4 HT4.out HW.out (by omega) HU.out)
          unfold DpE at HG
          rw [HGE.out] at HG
          clear hb4 HT3 HBC
          go_wp2_with fail
          refine HG.out.mono ?_
          rintro e w5 ⟨rfl, hT5, hk5⟩
          have HB5 : Hid (Below w.heap.size w w5) := Lib.hid (HB4.out.trans (hk5.below (fun g hg => by rw [HC2.out g hg]; omega) HB4.out.size))
          have HD := Lib.hid (drpT_any w5 _ 1 p n _ wd hT5 (HW.out.giv HU.out) (by omega) HU.out)
          unfold DpE at HD
          rw [HRG.out] at HD
          have HC5 : Hid (∀ g, g < w.heap.size → rc c2 w4.heap.size 1 g = 0) := Lib.hid (fun g hg => by rw [rc_old (by have := HB4.out.size; omega)]; exact HC2.out g hg)
          clear hT5 hk5 HG HT4 HB4
          go_wp2_with fail
          refine (HFV.out _).mono ?_
          rintro e w6 ⟨rfl, rfl⟩
          go_wp2_with fail
          refine HD.out.mono ?_
          rintro e w7 ⟨rfl, _, hk7⟩
          have HB7 : Hid (Below w.heap.size w w7) := Lib.hid (HB5.out.trans (hk7.below (fun g hg => by rw [HC5.out g hg]; omega) HB5.out.size))
          clear hk7 HD
          go_wp2
          go_ret
          exact ⟨rfl, HB7.out⟩
        · have hRE : T.resE (word s g k) = 12 := Ht.resE_tag hws hsl hl (by rw [hwg, hgn, hg9]) (by rw [hwt, htg]; exact fun e => hk3 e.symm)
          have hkb : (k != 3) = true := by simpa using hk3
          have hgb : (g != 9) = false := by simpa using hg9
          clear hg9
          obtain ⟨wd, hwd⟩ : ∃ wd, word s g k = wd := ⟨_, rfl⟩
          rw [hwd] at hor hu hRE
          have HU := Lib.hid hu
          have HRE := Lib.hid hRE
          have HGE : Hid (T.givE wd a4 = fst2 12 a4) := Lib.hid (by rw [giv_fst2, HRE.out])
          have HRG : Hid ((T.givN wd a4).resE wd = 12) := Lib.hid (by rw [Ht.resE_giv HW.out HU.out, HRE.out])
          obtain ⟨fv, hfv⟩ : ∃ fv, fst2 12 a4 = fv := ⟨_, rfl⟩
          rw [hfv] at HGE
          have HFV := Lib.hid (fun W => first2_any 12 a4 W)
          rw [hfv] at HFV
          generalize word (s : Int) 9 3 = wj at *
          clear w0 w1 w2 w3 w4 hu hws hwg hwt hwd hW hlv hgn htg hTl hT hE1 hH1 hjs hju hRE hfv
          go_enter Try.func6, Try.ntmps6
          go_wp2_with fail
          refine HN.out.mono ?_
          rintro e wa (⟨h1, _⟩ | ⟨_, p, rfl, hp, hS, hba⟩)
          · have := HNS.out
            omega
          have HS := Lib.hid hS
          have HBA := Lib.hid hba
          clear HN hS hba
          go_wp2_with fail
          refine (HI.out wa _ p HS.out).mono ?_
          rintro e wb ⟨rfl, hT2, hk2⟩
          have HT2 := Lib.hid hT2
          have HBB : Hid (Below w.heap.size w wb) := Lib.hid (HBA.out.trans (hk2.below (fun g hg => by rw [rc_old hg]; omega) HBA.out.size))
          have HC2 : Hid (∀ g, g < w.heap.size → rc (rc (fun _ => 0) w.heap.size 1) wa.heap.size 1 g = 0) := Lib.hid (fun g hg => by rw [rc_old (by have := HBA.out.size; omega), rc_old hg])
          generalize rc (rc (fun _ => 0) w.heap.size 1) wa.heap.size 1 = c2 at *
          have HR := Lib.hid (resS_any wb c2 1 p n T wd hT2 HW.out (by omega) HU.out)
          unfold RsE at HR
          rw [HRE.out] at HR
          obtain ⟨⟨v1, v2, v3, v4, v5⟩, hv⟩ : ∃ v, T.resV wd = v := ⟨_, rfl⟩
          rw [hv] at HR
          unfold enV at HR
          simp only at HR
          clear hT2 hk2 HI HS HBA hv
          go_wp2_with fail
          try rw [hor]
          refine HR.out.mono ?_
          rintro e wc ⟨rfl, hbc⟩
          have hbd : Below wb.heap.size wb (wc.alloc (.cells #[.int .u64 v1, .int .i64 v2, .int .i64 v3, .int .i64 v4, .int .i64 v5] 44)) := hbc.alloc hbc.size _
          have HT3 := Lib.hid (HT2.out.go hbd)
          have HBC := Lib.hid (Below.then HBB.out hbd (Nat.le_refl _))
          clear hbc hbd HR HT2 HBB
          go_wp2_with fail
          refine (HSJ.out _).mono ?_
          rintro e w2 ⟨rfl, rfl⟩
          go_wp2_with fail
          refine (awake13_any _).mono ?_
          generalize wc.alloc (.cells #[.int .u64 v1, .int .i64 v2, .int .i64 v3, .int .i64 v4, .int .i64 v5] 44) = w3 at *
          rintro e w4 ⟨rfl, hb4⟩
          have HT4 := Lib.hid (HT3.out.go hb4)
          have HB4 := Lib.hid (Below.then HBC.out hb4 (Nat.le_refl _))
          have HG := Lib.hid (givT_any w4 c2 1 p n T wd a4 HT4.out HW.out (by omega) HU.out)
          unfold DpE at HG
          rw [HGE.out] at HG
          clear hb4 HT3 HBC
          go_wp2_with fail
          refine HG.out.mono ?_
          rintro e w5 ⟨rfl, hT5, hk5⟩
          have HB5 : Hid (Below w.heap.size w w5) := Lib.hid (HB4.out.trans (hk5.below (fun g hg => by rw [HC2.out g hg]; omega) HB4.out.size))
          have HD := Lib.hid (drpT_any w5 _ 1 p n _ wd hT5 (HW.out.giv HU.out) (by omega) HU.out)
          unfold DpE at HD
          rw [HRG.out] at HD
          have HC5 : Hid (∀ g, g < w.heap.size → rc c2 w4.heap.size 1 g = 0) := Lib.hid (fun g hg => by rw [rc_old (by have := HB4.out.size; omega)]; exact HC2.out g hg)
          clear hT5 hk5 HG HT4 HB4
          go_wp2_with fail
          refine (HFV.out _).mono ?_
          rintro e w6 ⟨rfl, rfl⟩
          go_wp2_with fail
          refine HD.out.mono ?_
          rintro e w7 ⟨rfl, _, hk7⟩
          have HB7 : Hid (Below w.heap.size w w7) := Lib.hid (HB5.out.trans (hk7.below (fun g hg => by rw [HC5.out g hg]; omega) HB5.out.size))
          clear hk7 HD
          go_wp2
          go_ret
          exact ⟨rfl, HB7.out⟩
      · have hRE : T.resE (word s g k) = 11 := Ht.resE_old hws hsl (by rw [hwg, hgn]; exact fun e => hg9 e.symm)
        have hgb : (g != 9) = true := by simpa using hg9
        obtain ⟨wd, hwd⟩ : ∃ wd, word s g k = wd := ⟨_, rfl⟩
        rw [hwd] at hor hu hRE
        have HU := Lib.hid hu
        have HRE := Lib.hid hRE
        have HGE : Hid (T.givE wd a4 = fst2 11 a4) := Lib.hid (by rw [giv_fst2, HRE.out])
        have HRG : Hid ((T.givN wd a4).resE wd = 11) := Lib.hid (by rw [Ht.resE_giv HW.out HU.out, HRE.out])
        obtain ⟨fv, hfv⟩ : ∃ fv, fst2 11 a4 = fv := ⟨_, rfl⟩
        rw [hfv] at HGE
        have HFV := Lib.hid (fun W => first2_any 11 a4 W)
        rw [hfv] at HFV
        generalize word (s : Int) 9 3 = wj at *
        clear w0 w1 w2 w3 w4 hu hws hwg hwt hwd hW hlv hgn htg hTl hT hE1 hH1 hjs hju hRE hfv
        go_enter Try.func6, Try.ntmps6
        go_wp2_with fail
        refine HN.out.mono ?_
        rintro e wa (⟨h1, _⟩ | ⟨_, p, rfl, hp, hS, hba⟩)
        · have := HNS.out
          omega
        have HS := Lib.hid hS
        have HBA := Lib.hid hba
        clear HN hS hba
        go_wp2_with fail
        refine (HI.out wa _ p HS.out).mono ?_
        rintro e wb ⟨rfl, hT2, hk2⟩
        have HT2 := Lib.hid hT2
        have HBB : Hid (Below w.heap.size w wb) := Lib.hid (HBA.out.trans (hk2.below (fun g hg => by rw [rc_old hg]; omega) HBA.out.size))
        have HC2 : Hid (∀ g, g < w.heap.size → rc (rc (fun _ => 0) w.heap.size 1) wa.heap.size 1 g = 0) := Lib.hid (fun g hg => by rw [rc_old (by have := HBA.out.size; omega), rc_old hg])
        generalize rc (rc (fun _ => 0) w.heap.size 1) wa.heap.size 1 = c2 at *
        have HR := Lib.hid (resS_any wb c2 1 p n T wd hT2 HW.out (by omega) HU.out)
        unfold RsE at HR
        rw [HRE.out] at HR
        obtain ⟨⟨v1, v2, v3, v4, v5⟩, hv⟩ : ∃ v, T.resV wd = v := ⟨_, rfl⟩
        rw [hv] at HR
        unfold enV at HR
        simp only at HR
        clear hT2 hk2 HI HS HBA hv
        go_wp2_with fail
        try rw [hor]
        refine HR.out.mono ?_
        rintro e wc ⟨rfl, hbc⟩
        have hbd : Below wb.heap.size wb (wc.alloc (.cells #[.int .u64 v1, .int .i64 v2, .int .i64 v3, .int .i64 v4, .int .i64 v5] 44)) := hbc.alloc hbc.size _
        have HT3 := Lib.hid (HT2.out.go hbd)
        have HBC := Lib.hid (Below.then HBB.out hbd (Nat.le_refl _))
        clear hbc hbd HR HT2 HBB
        go_wp2_with fail
        refine (HSJ.out _).mono ?_
        rintro e w2 ⟨rfl, rfl⟩
        go_wp2_with fail
        refine (awake13_any _).mono ?_
        generalize wc.alloc (.cells #[.int .u64 v1, .int .i64 v2, .int .i64 v3, .int .i64 v4, .int .i64 v5] 44) = w3 at *
        rintro e w4 ⟨rfl, hb4⟩
        have HT4 := Lib.hid (HT3.out.go hb4)
        have HB4 := Lib.hid (Below.then HBC.out hb4 (Nat.le_refl _))
        have HG := Lib.hid (givT_any w4 c2 1 p n T wd a4 HT4.out HW.out (by omega) HU.out)
        unfold DpE at HG
        rw [HGE.out] at HG
        clear hb4 HT3 HBC
        go_wp2_with fail
        refine HG.out.mono ?_
        rintro e w5 ⟨rfl, hT5, hk5⟩
        have HB5 : Hid (Below w.heap.size w w5) := Lib.hid (HB4.out.trans (hk5.below (fun g hg => by rw [HC2.out g hg]; omega) HB4.out.size))
        have HD := Lib.hid (drpT_any w5 _ 1 p n _ wd hT5 (HW.out.giv HU.out) (by omega) HU.out)
        unfold DpE at HD
        rw [HRG.out] at HD
        have HC5 : Hid (∀ g, g < w.heap.size → rc c2 w4.heap.size 1 g = 0) := Lib.hid (fun g hg => by rw [rc_old (by have := HB4.out.size; omega)]; exact HC2.out g hg)
        clear hT5 hk5 HG HT4 HB4
        go_wp2_with fail
        refine (HFV.out _).mono ?_
        rintro e w6 ⟨rfl, rfl⟩
        go_wp2_with fail
        refine HD.out.mono ?_
        rintro e w7 ⟨rfl, _, hk7⟩
        have HB7 : Hid (Below w.heap.size w w7) := Lib.hid (HB5.out.trans (hk7.below (fun g hg => by rw [HC5.out g hg]; omega) HB5.out.size))
        clear hk7 HD
        go_wp2
        go_ret
        exact ⟨rfl, HB7.out⟩
    · have hRE : T.resE (word s g k) = 11 := Ht.resE_dead hws hsl (by rw [hlv]; exact decide_eq_false hsj)
      have hsb : ((s : Int) != (j : Int)) = true := by simpa using (show ¬ (s : Int) = (j : Int) by omega)
      obtain ⟨wd, hwd⟩ : ∃ wd, word s g k = wd := ⟨_, rfl⟩
      rw [hwd] at hor hu hRE
      have HU := Lib.hid hu
      have HRE := Lib.hid hRE
      have HGE : Hid (T.givE wd a4 = fst2 11 a4) := Lib.hid (by rw [giv_fst2, HRE.out])
      have HRG : Hid ((T.givN wd a4).resE wd = 11) := Lib.hid (by rw [Ht.resE_giv HW.out HU.out, HRE.out])
      obtain ⟨fv, hfv⟩ : ∃ fv, fst2 11 a4 = fv := ⟨_, rfl⟩
      rw [hfv] at HGE
      have HFV := Lib.hid (fun W => first2_any 11 a4 W)
      rw [hfv] at HFV
      generalize word j 9 3 = wj at *
      clear w0 w1 w2 w3 w4 hu hws hwg hwt hwd hW hlv hgn htg hTl hT hE1 hH1 hjs hju hRE hfv
      go_enter Try.func6, Try.ntmps6
      go_wp2_with fail
      refine HN.out.mono ?_
      rintro e wa (⟨h1, _⟩ | ⟨_, p, rfl, hp, hS, hba⟩)
      · have := HNS.out
        omega
      have HS := Lib.hid hS
      have HBA := Lib.hid hba
      clear HN hS hba
      go_wp2_with fail
      refine (HI.out wa _ p HS.out).mono ?_
      rintro e wb ⟨rfl, hT2, hk2⟩
      have HT2 := Lib.hid hT2
      have HBB : Hid (Below w.heap.size w wb) := Lib.hid (HBA.out.trans (hk2.below (fun g hg => by rw [rc_old hg]; omega) HBA.out.size))
      have HC2 : Hid (∀ g, g < w.heap.size → rc (rc (fun _ => 0) w.heap.size 1) wa.heap.size 1 g = 0) := Lib.hid (fun g hg => by rw [rc_old (by have := HBA.out.size; omega), rc_old hg])
      generalize rc (rc (fun _ => 0) w.heap.size 1) wa.heap.size 1 = c2 at *
      have HR := Lib.hid (resS_any wb c2 1 p n T wd hT2 HW.out (by omega) HU.out)
      unfold RsE at HR
      rw [HRE.out] at HR
      obtain ⟨⟨v1, v2, v3, v4, v5⟩, hv⟩ : ∃ v, T.resV wd = v := ⟨_, rfl⟩
      rw [hv] at HR
      unfold enV at HR
      simp only at HR
      clear hT2 hk2 HI HS HBA hv
      go_wp2_with fail
      try rw [hor]
      refine HR.out.mono ?_
      rintro e wc ⟨rfl, hbc⟩
      have hbd : Below wb.heap.size wb (wc.alloc (.cells #[.int .u64 v1, .int .i64 v2, .int .i64 v3, .int .i64 v4, .int .i64 v5] 44)) := hbc.alloc hbc.size _
      have HT3 := Lib.hid (HT2.out.go hbd)
      have HBC := Lib.hid (Below.then HBB.out hbd (Nat.le_refl _))
      clear hbc hbd HR HT2 HBB
      go_wp2_with fail
      refine (HSJ.out _).mono ?_
      rintro e w2 ⟨rfl, rfl⟩
      go_wp2_with fail
      refine (awake13_any _).mono ?_
      generalize wc.alloc (.cells #[.int .u64 v1, .int .i64 v2, .int .i64 v3, .int .i64 v4, .int .i64 v5] 44) = w3 at *
      rintro e w4 ⟨rfl, hb4⟩
      have HT4 := Lib.hid (HT3.out.go hb4)
      have HB4 := Lib.hid (Below.then HBC.out hb4 (Nat.le_refl _))
      have HG := Lib.hid (givT_any w4 c2 1 p n T wd a4 HT4.out HW.out (by omega) HU.out)
      unfold DpE at HG
      rw [HGE.out] at HG
      clear hb4 HT3 HBC
      go_wp2_with fail
      refine HG.out.mono ?_
      rintro e w5 ⟨rfl, hT5, hk5⟩
      have HB5 : Hid (Below w.heap.size w w5) := Lib.hid (HB4.out.trans (hk5.below (fun g hg => by rw [HC2.out g hg]; omega) HB4.out.size))
      have HD := Lib.hid (drpT_any w5 _ 1 p n _ wd hT5 (HW.out.giv HU.out) (by omega) HU.out)
      unfold DpE at HD
      rw [HRG.out] at HD
      have HC5 : Hid (∀ g, g < w.heap.size → rc c2 w4.heap.size 1 g = 0) := Lib.hid (fun g hg => by rw [rc_old (by have := HB4.out.size; omega)]; exact HC2.out g hg)
      clear hT5 hk5 HG HT4 HB4
      go_wp2_with fail
      refine (HFV.out _).mono ?_
      rintro e w6 ⟨rfl, rfl⟩
      go_wp2_with fail
      refine HD.out.mono ?_
      rintro e w7 ⟨rfl, _, hk7⟩
      have HB7 : Hid (Below w.heap.size w w7) := Lib.hid (HB5.out.trans (hk7.below (fun g hg => by rw [HC5.out g hg]; omega) HB5.out.size))
      clear hk7 HD
      go_wp2
      go_ret
      exact ⟨rfl, HB7.out⟩
end Go.Proofs.Ytaoojgnkbcoggaa
