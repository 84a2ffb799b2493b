/-
  The law ArenaMoves as a walk: it returns true and changes nothing that was there. No conditions.
-/
import Derived.Test.YtfchccgajcjbbaaAlk
import Derived.Test.YtfchccgajcjbbaaAtl
namespace Go.Proofs.Ytfchccgajcjbbaa
open Go.ChangeShapes Go.WideShapes Go.ChangeAt Go.RowKit
set_option maxHeartbeats 8000000
set_option maxRecDepth 100000

theorem szR_32 : szR 32 = 32 := szR_is (k := 1) (by decide) (by decide) ⟨by decide, by decide⟩
theorem ch32 : chR [(0, 64)] 32 = ((0, 32), 0) := by
  have h1 : erR 32 = 0 := by decide
  unfold chR
  rw [if_pos h1, szR_32]
  rfl
theorem gd64' {zs : List Int} (hz : zs.length = 64) : Gd (zs.length : Int) [(0, 64)] [] := by
  have h := gd_new (n := 64) (by omega) (by omega)
  rw [show cmp 0 [] (64 : Int) = [(0, 64)] by decide] at h
  rw [hz]
  exact h
/-- What the copy within the extent says. -/
theorem mv_bad {bs : List Int} {to fr n : Nat} (h : 32 < to + n ∨ 32 < fr + n) : cpC [((0 : Int), 32)] 0 32 to 0 32 fr n = 7 ∧ cpB [((0 : Int), 32)] bs 0 32 to 0 32 fr n = bs :=
  cp7 (by simp) (by omega) (fun hw => by
    have h1 := wi_is hw.1
    have h2 := wi_is hw.2
    omega)
theorem mv_ok {bs : List Int} {to fr n : Nat} (h1 : to + n ≤ 32) (h2 : fr + n ≤ 32) : cpC [((0 : Int), 32)] 0 32 to 0 32 fr n = 0 ∧ cpB [((0 : Int), 32)] bs 0 32 to 0 32 fr n = pt bs to ((bs.drop fr).take n) := by
  have h := cp0 (A := [((0 : Int), 32)]) (bs := bs) (x := 0) (y := 32) (u := 0) (v := 32) (to := to) (fr := fr) (n := n) (by simp) (by omega) (by simp [wi]; omega)
  rw [show (0 + (to : Int)).toNat = to by omega, show (0 + (fr : Int)).toNat = fr by omega, show ((n : Int)).toNat = n by omega] at h
  exact h
theorem mv_at {bs : List Int} {to fr n i : Nat} (hb : bs.length = 64) (h1 : to + n ≤ 32) (h2 : fr + n ≤ 32) (hi : i < n) : ((pt bs to ((bs.drop fr).take n)).take 32).getD (to + i) 0 = (bs.take 32).getD (fr + i) 0 := by
  have e1 : ∀ (l : List Int) (j : Nat), j < 32 → (l.take 32).getD j 0 = l.getD j 0 := fun l j hj => by simp [List.getD, hj]
  rw [e1 _ _ (by omega), e1 _ _ (by omega), pt_getD, if_pos ⟨by omega, by rw [List.length_take, List.length_drop]; omega, by omega⟩, show to + i - to = i by omega]
  simp [List.getD, hi, List.getElem?_drop]
theorem rd32 {bs : List Int} : bytC [((0 : Int), 32)] 0 32 0 32 = 0 ∧ rdL [((0 : Int), 32)] bs 0 32 0 32 = bs.take 32 := by
  have h1 : bytC [((0 : Int), 32)] 0 32 0 32 = 0 := by simp [bytC, wi]
  refine ⟨h1, ?_⟩
  unfold rdL
  rw [if_pos h1]
  simp
theorem Row.ks {S : Nat → Prop} {w w' : World} {c : Nat → Nat} {n cp : Nat} {A : Option Addr} {vs : List Value} (h : Row w w.heap.size A n cp vs) (hk : KS S c w w') (hne : ∀ b o, A = some ⟨b, o, none⟩ → b < w.heap.size → ¬ S (c b)) : Row w' w'.heap.size A n cp vs :=
  ⟨h.len, h.cap, h.small, h.nil, fun hn => by
    obtain ⟨b, o, e, hb, hc⟩ := h.cells hn
    refine ⟨b, o, e, Nat.lt_of_lt_of_le hb hk.size, fun i hi => ?_⟩
    rw [← hc i hi]
    simp only [World.cell?, hk.block b hb (hne b o e hb)]⟩
theorem arenaMoves_walk (a0 : Option Addr) (len0 cap0 : Nat) (z0 : List Int) (to fr n : Int) (w : World) (w0 : IsRow .u8 w a0 len0 cap0 z0) (hto : (Lit.int .u8 to).wf = true) (hfr : (Lit.int .u8 fr).wf = true) (hn : (Lit.int .u8 n).wf = true) :
    Calls Try.prog 9 #[.slice a0 len0 cap0, .int .u8 to, .int .u8 fr, .int .u8 n] w fun e w' => e = .returned (.bool true) ∧ Below w.heap.size w w' := by
  obtain ⟨to0, to1⟩ := byte_bd hto
  obtain ⟨fr0, fr1⟩ := byte_bd hfr
  obtain ⟨n0, n1⟩ := byte_bd hn
  obtain ⟨hR, hF⟩ := w0.row
  have hcap := hR.cap
  have hmax := hR.small
  unfold maxLen at hmax
  obtain ⟨nb, l, hnb1, hnb2, hnb3, hRl, hFl⟩ : ∃ (nb : Nat) (l : List Int), (32 < len0 → nb = 32) ∧ (¬ 32 < len0 → nb = len0) ∧ nb ≤ 32 ∧ Row w w.heap.size a0 nb cap0 (iv .u8 l) ∧ Fit .u8 l := by
    by_cases h : 32 < len0
    · exact ⟨32, (z0.take len0).take 32, fun _ => rfl, fun h' => absurd h h', Nat.le_refl _, by rw [← iv_take]; exact hR.take (by omega), hF.take 32⟩
    · exact ⟨len0, z0.take len0, fun h' => absurd h' h, fun _ => rfl, by omega, hR, hF⟩
  have HRL := Lib.hid hRl
  have HFL := Lib.hid hFl
  have HNB := Lib.hid (And.intro hnb1 hnb2)
  obtain ⟨TO, hTO⟩ : ∃ TO : Nat, to % 40 = TO := ⟨(to % 40).toNat, by omega⟩
  obtain ⟨FR, hFR⟩ : ∃ FR : Nat, fr % 40 = FR := ⟨(fr % 40).toNat, by omega⟩
  obtain ⟨M, hM⟩ : ∃ M : Nat, n % 40 = M := ⟨(n % 40).toNat, by omega⟩
  have hb40 : TO < 40 ∧ FR < 40 ∧ M < 40 := by omega
  obtain ⟨b1, b2, b3⟩ := hb40
  have H := Lib.hid (newA_ok (fun _ => 0) 64 w (by omega))
  have HA := Lib.hid (fun W => awake_any W)
  clear hR hF w0 hRl hFl hnb1 hnb2 hto hfr hn
  go_enter Try.func9, Try.ntmps9
  go_wp2_with fail
  refine H.out.mono ?_
  rintro e w1 ⟨c1, a, p, g, rfl, ha, hb, hc, _⟩
  rw [cmp64] at ha
  obtain ⟨zs, hzs, hzl⟩ : ∃ zs, List.replicate 64 (0 : Int) = zs ∧ zs.length = 64 := ⟨_, rfl, List.length_replicate⟩
  rw [hzs] at ha
  have HZL := Lib.hid hzl
  have HA1 := Lib.hid ha
  have HB1 := Lib.hid hb
  have HC1 := Lib.hid hc
  clear H ha hb hc hzs hzl
  go_wp2_with fail
  refine (allocA_any c1 a p g [(0, 64)] [] [] zs 32 w1 HA1.out (gd64' HZL.out) (by simp) (List.Perm.refl _)).mono ?_
  rw [ch32]
  rintro e w2 ⟨F', A', ⟨rfl, c2, ha2, hk2, hc2, hn2⟩, hg2, hp2, _⟩
  obtain rfl : A' = [(0, 32)] := List.perm_singleton.1 hp2
  have hb3 : Below w2.heap.size w2 (w2.alloc (.cells #[.int .i64 0, .int .i64 32] 31)) := (Below.refl _ _).alloc (Nat.le_refl _) _
  have HE3 := Lib.hid (Box.new (w := w2) (x := 0) (y := 32))
  have HA3 := Lib.hid (ha2.go hb3)
  have HG2 : Hid (Gd (64 : Nat) F' [(0, 32)]) := Lib.hid (by rw [← HZL.out]; exact hg2)
  have hK3 := hk2.trans (KS.ofBelow (c := c2) hb3) hc2
  have HBW3 : Hid (Below w.heap.size w (w2.alloc (.cells #[.int .i64 0, .int .i64 32] 31))) := Lib.hid (Below.trans HB1.out (hK3.below (B := w.heap.size) (fun x hx => by rw [HC1.out x hx]; exact sp_not (by omega) (by omega)) HB1.out.size))
  have HC2 : Hid ((∀ x, x < w.heap.size → c2 x = 0) ∧ c2 w2.heap.size = 9) := Lib.hid ⟨fun x hx => by
    have := HB1.out.size
    rw [hc2 x (by omega)]; exact HC1.out x hx, hn2 _ (Nat.le_refl _)⟩
  clear ha2 hk2 hc2 hn2 hg2 hp2 hb3 hK3 HA1 HB1 HC1
  simp only [rV]
  have e0 := HE3.out.cell0
  have e1 := HE3.out.cell1
  have hsp : 32 < len0 ∨ ¬ 32 < len0 := by omega
  rcases hsp with hbig | hbig
  all_goals
    have hnbe : nb = if 32 < len0 then 32 else len0 := by
      by_cases h : 32 < len0
      · rw [if_pos h]; exact HNB.out.1 h
      · rw [if_neg h]; exact HNB.out.2 h
    simp only [hbig, if_true, if_false] at hnbe
    subst hnbe
    clear HNB
    go_wp2_with fail
    generalize w2.alloc (.cells #[.int .i64 0, .int .i64 32] 31) = w3 at *
    generalize w2.heap.size = t at *
    clear e0 e1
    have HRL3 := Lib.hid (HRL.out.go HBW3.out)
    refine (write_any c2 a p g F' [(0, 32)] zs 0 32 0 a0 _ cap0 l w3 HA3.out (by rw [HZL.out]; exact HG2.out) (by simp) HRL3.out HFL.out).mono ?_
    have hlz : (wrB [((0 : Int), 32)] zs 0 32 0 l).length = 64 := by rw [wrB_len]; exact HZL.out
    have HLZ := Lib.hid hlz
    generalize wrB [((0 : Int), 32)] zs 0 32 0 l = bs at *
    rintro e w4 ⟨rfl, c4, ha4, hk4, hc4, hn4⟩
    have HE4 : Hid (Box w4 t 0 32) := Lib.hid (HE3.out.ks hk4 (by rw [HC2.out.2]; exact sp_not (by omega) (by omega)))
    have HA4 := Lib.hid ha4
    have HG4 : Hid (Gd (bs.length : Int) F' [(0, 32)]) := Lib.hid (by rw [hlz]; exact HG2.out)
    have HBW4 : Hid (Below w.heap.size w w4) := Lib.hid (Below.trans HBW3.out (hk4.below (B := w.heap.size) (fun x hx => by rw [HC2.out.1 x hx]; exact sp_not (by omega) (by omega)) HBW3.out.size))
    have HC4 : Hid ((∀ x, x < w.heap.size → c4 x = 0) ∧ c4 t = 9) := Lib.hid ⟨fun x hx => by
      have := HBW3.out.size
      rw [hc4 x (by omega)]; exact HC2.out.1 x hx, (hc4 t HE3.out.lt).trans HC2.out.2⟩
    have HN4 := Lib.hid hn4
    clear ha4 hk4 hc4 hn4 HE3 HA3 HBW3 HRL3 HRL HFL hlz
    generalize bytC [((0 : Int), 32)] 0 32 0 _ = r4 at *
    have e0 := HE4.out.cell0
    have e1 := HE4.out.cell1
    go_wp2_with fail
    refine (read_any c4 a p g F' [(0, 32)] bs 0 32 0 32 w4 HA4.out HG4.out (by simp) (by omega)).mono ?_
    rw [(rd32 (bs := bs)).1, rd32.2]
    rintro e w5 ⟨v1, rfl, ho, hb⟩
    obtain ⟨A1, m1, d1, rfl, hr1⟩ := ho.shape
    have hm1 : m1 = 32 := by
      have := hr1.len
      rw [iv_len, List.length_take, HLZ.out] at this
      omega
    subst hm1
    have HR1 := Lib.hid hr1
    have HGE : Hid (∀ b o, A1 = some ⟨b, o, none⟩ → ¬ Sp (c4 b)) := Lib.hid (fun b o e => by
      rw [HN4.out b (ho.ge b o e)]; exact sp_not (by omega) (by omega))
    have HE5 := Lib.hid (HE4.out.go hb)
    have HA5 := Lib.hid (HA4.out.go hb)
    have HBW5 := Lib.hid (Below.then HBW4.out hb (Nat.le_refl _))
    clear ho hb hr1 e0 e1 HE4 HA4 HBW4
    have e0 := HE5.out.cell0
    have e1 := HE5.out.cell1
    go_wp2_with fail
    have hcop : ∃ (r : Int) (b2 : List Int), cpC [((0 : Int), 32)] 0 32 TO 0 32 FR M = r ∧ cpB [((0 : Int), 32)] bs 0 32 TO 0 32 FR M = b2 ∧ b2.length = 64 ∧ ((r = 7 ∧ b2 = bs ∧ (32 < TO + M ∨ 32 < FR + M)) ∨ (r = 0 ∧ TO + M ≤ 32 ∧ FR + M ≤ 32 ∧ ∀ i, i < M → (b2.take 32).getD (TO + i) 0 = (bs.take 32).getD (FR + i) 0)) := by
      by_cases h : 32 < TO + M ∨ 32 < FR + M
      · exact ⟨7, bs, (mv_bad (bs := bs) h).1, (mv_bad h).2, HLZ.out, .inl ⟨rfl, rfl, h⟩⟩
      · have h1 : TO + M ≤ 32 := by omega
        have h2 : FR + M ≤ 32 := by omega
        exact ⟨0, _, (mv_ok (bs := bs) h1 h2).1, (mv_ok h1 h2).2, by rw [pt_len]; exact HLZ.out, .inr ⟨rfl, h1, h2, fun i hi => mv_at HLZ.out h1 h2 hi⟩⟩
    obtain ⟨r, b2, hr, hb2, hl2, hcase⟩ := hcop
    have HR := Lib.hid hr
    have HB2 := Lib.hid hb2
    have HL2 := Lib.hid hl2
    have HCASE := Lib.hid hcase
    clear hr hb2 hl2 hcase
    refine (copy_any c4 a p g F' [(0, 32)] bs 0 32 TO 0 32 FR M w5 HA5.out HG4.out (by simp) (by omega)).mono ?_
    rw [HR.out, HB2.out]
    rintro e w6 ⟨rfl, c6, ha6, hk6, hc6, hn6⟩
    have HE6 : Hid (Box w6 t 0 32) := Lib.hid (HE5.out.ks hk6 (by rw [HC4.out.2]; exact sp_not (by omega) (by omega)))
    have HA6 := Lib.hid ha6
    have HG6 : Hid (Gd (b2.length : Int) F' [(0, 32)]) := Lib.hid (by rw [HL2.out, ← HLZ.out]; exact HG4.out)
    have HBW6 : Hid (Below w.heap.size w w6) := Lib.hid (Below.trans HBW5.out (hk6.below (B := w.heap.size) (fun x hx => by rw [HC4.out.1 x hx]; exact sp_not (by omega) (by omega)) HBW5.out.size))
    have HR6 : Hid (Row w6 w6.heap.size A1 32 d1 (iv .u8 (bs.take 32))) := Lib.hid (HR1.out.ks hk6 (fun b o e _ => HGE.out b o e))
    clear ha6 hk6 hc6 hn6 e0 e1 HE5 HA5 HBW5 HR1 HB2 HR
    have e0 := HE6.out.cell0
    have e1 := HE6.out.cell1
    go_wp2_with fail
    refine (read_any c6 a p g F' [(0, 32)] b2 0 32 0 32 w6 HA6.out HG6.out (by simp) (by omega)).mono ?_
    rw [(rd32 (bs := b2)).1, rd32.2]
    rintro e w7 ⟨v2, rfl, ho, hb⟩
    obtain ⟨A2, m2, d2, rfl, hr2⟩ := ho.shape
    have hm2 : m2 = 32 := by
      have := hr2.len
      rw [iv_len, List.length_take, HL2.out] at this
      omega
    subst hm2
    have HR2 := Lib.hid hr2
    have HR7 := Lib.hid (HR6.out.go hb)
    have HBW7 := Lib.hid (Below.then HBW6.out hb (Nat.le_refl _))
    have hd1 := hr2.cap
    have hd2 := hr2.small
    have hd3 := HR7.out.cap
    have hd4 := HR7.out.small
    unfold maxLen at hd2 hd4
    clear ho hb hr2 e0 e1 HE6 HA6 HBW6 HR6
    rcases HCASE.out with ⟨hr7, hbb, hover⟩ | ⟨hr0, hfit1, hfit2, hmv⟩
    · subst hr7
      rw [hbb] at HR2
      obtain ⟨T, hT⟩ : ∃ T, strOfNums (bs.take 32) = T := ⟨_, rfl⟩
      have HT := Lib.hid hT
      clear hT HCASE hbb
      by_cases hov : 32 < TO + M
      · have D1 : (32 : Int) < (TO : Int) + (M : Int) := by omega
        clear hover
        go_wp2_with fail
        refine (HA.out w7).mono ?_
        rintro e w8 ⟨rfl, hb8⟩
        have t1 := (HR7.out.go hb8).text HT.out
        have t2 := (HR2.out.go hb8).text HT.out
        have HB8 := Lib.hid (Below.then HBW7.out hb8 (Nat.le_refl _))
        clear hb8
        go_wp2
        go_ret
        exact ⟨rfl, HB8.out⟩
      · have D1 : ¬ (32 : Int) < (TO : Int) + (M : Int) := by omega
        have D2 : (32 : Int) < (FR : Int) + (M : Int) := by omega
        have D3 : decide ((32 : Int) < (TO : Int) + (M : Int)) = false := decide_eq_false D1
        clear hover
        go_wp2_with fail
        refine (HA.out w7).mono ?_
        rintro e w8 ⟨rfl, hb8⟩
        have t1 := (HR7.out.go hb8).text HT.out
        have t2 := (HR2.out.go hb8).text HT.out
        have HB8 := Lib.hid (Below.then HBW7.out hb8 (Nat.le_refl _))
        clear hb8
        go_wp2
        go_ret
        exact ⟨rfl, HB8.out⟩
    · subst hr0
      have HMV := Lib.hid hmv
      clear hmv HCASE
      have D1 : decide ((32 : Int) < (TO : Int) + (M : Int)) = false := decide_eq_false (by omega)
      have D2 : decide ((32 : Int) < (FR : Int) + (M : Int)) = false := decide_eq_false (by omega)
      have D3 : ¬ (32 : Int) < (TO : Int) + (M : Int) := by omega
      have D4 : ¬ (32 : Int) < (FR : Int) + (M : Int) := by omega
      go_wp2
      go_loopw [18] (fun iv wr => ∃ (i : Nat), i ≤ M ∧ iv = .int .i64 i ∧ Hid (Below w7.heap.size w7 wr)) (fun iv _ => M - (intOf iv).toNat)
      case atStart => exact ⟨0, by omega, rfl, Lib.hid (Below.refl _ _)⟩
      case round =>
        obtain ⟨i, hi, rfl, hh⟩ := hrel
        by_cases hlt : i < M
        · have hlt' : (i : Int) < (M : Int) := by omega
          obtain ⟨bb, oo, rfl, hbw, hcell⟩ := (HR2.out.go hh.out).int (j := TO + i) (by omega)
          obtain ⟨bb', oo', rfl, hbw', hcell'⟩ := (HR7.out.go hh.out).int (j := FR + i) (by omega)
          rw [HMV.out i hlt] at hcell
          generalize (bs.take 32).getD (FR + i) 0 = u at *
          have a1 : ∀ m : Later wr, m.val.cell? ⟨bb, oo + (TO + i), none⟩ = some (.int .u8 u) := fun m => later_old m hcell
          have a2 : ∀ m : Later wr, m.val.cell? ⟨bb', oo' + (FR + i), none⟩ = some (.int .u8 u) := fun m => later_old m hcell'
          have e2 : ((TO : Int) + (i : Int)).toNat = TO + i := by omega
          have e3 : ((FR : Int) + (i : Int)).toNat = FR + i := by omega
          have i0 : 0 ≤ (TO : Int) + (i : Int) := by omega
          have i1 : (TO : Int) + (i : Int) < 32 := by omega
          have i2 : 0 ≤ (FR : Int) + (i : Int) := by omega
          have i3 : (FR : Int) + (i : Int) < 32 := by omega
          have w1' : to.tmod 40 = (TO : Int) := by rw [Int.tmod_eq_emod_of_nonneg to0]; exact hTO
          have w2' : fr.tmod 40 = (FR : Int) := by rw [Int.tmod_eq_emod_of_nonneg fr0]; exact hFR
          have w3' : IntKind.u8.wrap (TO : Int) = TO := by rw [IntKind.wrap_u8]; omega
          have w4' : IntKind.u8.wrap (FR : Int) = FR := by rw [IntKind.wrap_u8]; omega
          have w5' : IntKind.i64.wrap (TO : Int) = TO := by rw [IntKind.wrap_i64]; omega
          have w6' : IntKind.i64.wrap (FR : Int) = FR := by rw [IntKind.wrap_i64]; omega
          have w7' : IntKind.i64.wrap ((TO : Int) + i) = TO + i := by rw [IntKind.wrap_i64]; omega
          have w8' : IntKind.i64.wrap ((FR : Int) + i) = FR + i := by rw [IntKind.wrap_i64]; omega
          clear hcell hcell'
          go_wp2
          refine wp_region_later (by kernel_rfl) (by kernel_rfl) ?_
          repeat (go_big_quiet_step (fail))
          refine wpQuiet_nil ?_
          rintro w8 ⟨⟨_, hq⟩, rfl⟩
          have HB8 := Lib.hid (Below.then hh.out hq (Nat.le_refl _))
          clear a1 a2 hq hh w1' w2' w3' w4' w5' w6' w7' w8'
          go_wp2
          go_roundw
          case rel => exact ⟨i + 1, by omega, by go_num, HB8⟩
          case measure => simp [intOf]; omega
        · obtain rfl : i = M := by omega
          have HB8 := Lib.hid (Below.then HBW7.out hh.out (Nat.le_refl _))
          clear hh
          go_wp2_with fail
          refine (HA.out wr).mono ?_
          rintro e w8 ⟨rfl, hb8⟩
          have HB9 := Lib.hid (Below.then HB8.out hb8 (Nat.le_refl _))
          clear hb8
          go_wp2
          go_ret
          exact ⟨rfl, HB9.out⟩
end Go.Proofs.Ytfchccgajcjbbaa
