/-
  The law ArenaLittle as a walk: it returns true and changes nothing that was there. No conditions.
-/
import Derived.Test.YtfchccgajcjbbaaAlk
import Derived.Test.YtfchccgajcjbbaaAtl
namespace Go.Proofs.Ytfchccgajcjbbaa
open Go.ChangeShapes Go.WideShapes Go.ChangeAt Go.RowKit
set_option maxHeartbeats 8000000
set_option maxRecDepth 100000

theorem cmp256 : cmp 0 [] ((256 : Nat) : Int) = [(0, 256)] := by decide
theorem gd256 {zs : List Int} (hz : zs.length = 256) : Gd (zs.length : Int) [(0, 256)] [] := by
  have h := gd_new (n := 256) (by omega) (by omega)
  rw [show cmp 0 [] (256 : Int) = [(0, 256)] by decide] at h
  rw [hz]
  exact h
theorem wi_no {off n y : Int} (h : y < off + n) : wi off n y = false := by simp [wi]; omega
theorem wi_ok {off n y : Int} (h0 : 0 ≤ off) (h : off + n ≤ y) : wi off n y = true := by simp [wi]; omega
theorem num_one {s off n : Int} (hn : n = 1 ∨ n = 2 ∨ n = 4 ∨ n = 8) : numC [((0 : Int), s)] 0 s off n = if wi off n s = true then 0 else 7 := numC_w (by simp) hn
/-- What the law asks of the bytes. -/
theorem little_ld {zs : List Int} (hz : zs.length = 256) {s v : Int} {at_ N : Nat} (hs : s ≤ 64) (hN : N = 1 ∨ N = 2 ∨ N = 4 ∨ N = 8) (h : (at_ : Int) + N ≤ s) (v0 : 0 ≤ v) (v1 : v < 256 ^ N) :
    numC [((0 : Int), s)] 0 s at_ N = 0 ∧ stC [((0 : Int), s)] 0 s at_ N v = 0 ∧ ldR [((0 : Int), s)] (stB [((0 : Int), s)] zs 0 s at_ N v) 0 s at_ N = v ∧
    ∀ i, i < N → numC [((0 : Int), s)] 0 s ((at_ : Int) + i) 1 = 0 ∧ ldR [((0 : Int), s)] (stB [((0 : Int), s)] zs 0 s at_ N v) 0 s ((at_ : Int) + i) 1 = v / 256 ^ i % 256 := by
  have hn : numC [((0 : Int), s)] 0 s at_ N = 0 := by rw [num_one (by omega), wi_ok (by omega) (by omega)]; rfl
  have hst : stC [((0 : Int), s)] 0 s at_ N v = 0 := by
    unfold stC
    rw [if_pos hn, pow256, Int.ediv_eq_zero_of_lt v0 v1]
    rfl
  have hb : stB [((0 : Int), s)] zs 0 s at_ N v = pt zs at_ (by8 v N) := by
    unfold stB
    rw [if_pos hst, show (0 + (at_ : Int)).toNat = at_ by omega]
  have hl : at_ + (by8 v N).length ≤ zs.length := by rw [by8_len, hz]; omega
  refine ⟨hn, hst, ?_, fun i hi => ?_⟩
  · unfold ldR ldV
    rw [if_pos hn, hb, show (0 + (at_ : Int)).toNat = at_ by omega, show ((N : Int)).toNat = N by omega]
    have h1 := pt_all hl
    rw [by8_len] at h1
    rw [h1, le_by8 v0, Int.emod_eq_of_lt v0 v1]
  · have hn1 : numC [((0 : Int), s)] 0 s ((at_ : Int) + i) 1 = 0 := by rw [num_one (by omega), wi_ok (by omega) (by omega)]; rfl
    refine ⟨hn1, ?_⟩
    unfold ldR ldV
    rw [if_pos hn1, hb, show (0 + ((at_ : Int) + i)).toNat = at_ + i by omega, show ((1 : Int)).toNat = 1 by omega]
    rw [pt_sub (i := i) (m := 1) hl (by rw [by8_len]; omega), le_one (by rw [by8_len]; exact hi), by8_at hi]
theorem little_bad {s v : Int} {at_ N : Nat} (hN : N = 1 ∨ N = 2 ∨ N = 4 ∨ N = 8) (h : ¬ (at_ : Int) + N ≤ s) : stC [((0 : Int), s)] 0 s at_ N v = 7 := by
  have hn : numC [((0 : Int), s)] 0 s at_ N = 7 := by rw [num_one (by omega), wi_no (by omega)]; rfl
  unfold stC
  rw [if_neg (by omega), hn]

theorem little_0 (n m v w0 : Int) (w : World) (hn : 0 ≤ n ∧ n ≤ 255) (hm : 0 ≤ m ∧ m ≤ 255) (hv : 0 ≤ v ∧ v < 18446744073709551616) (hw : 0 ≤ w0 ∧ w0 ≤ 255) (h4 : w0 % 4 = 0) :
    Calls Try.prog 8 #[.int .u8 n, .int .u8 m, .int .u8 w0, .int .u64 v] w fun e w' => e = .returned (.bool true) ∧ Below w.heap.size w w' := by
  obtain ⟨n0, n1⟩ := hn
  obtain ⟨m0, m1⟩ := hm
  obtain ⟨v0, v1⟩ := hv
  obtain ⟨w00, w01⟩ := hw
  have H := Lib.hid (newA_ok (fun _ => 0) 256 w (by omega))
  have HA := Lib.hid (fun W => awake_any W)
  obtain ⟨M, rfl⟩ := Int.eq_ofNat_of_zero_le m0
  obtain ⟨s, hch, s1, s2, s3⟩ := ch_whole (n := 256) (z := 1 + n % 60) (by omega) (by omega) (by omega)
  have HCH := Lib.hid hch
  have HV : Hid (0 ≤ v / 72057594037927936 ∧ v / 72057594037927936 < 256 ^ 1) := Lib.hid (by
    have e1 : (256 : Int) ^ 1 = 256 := by decide
    rw [e1]
    omega)
  have hz1 : 1 ≤ 1 + n % 60 := by omega
  have hz2 : 1 + n % 60 ≤ 64 := by omega
  clear hch
  go_enter Try.func8, Try.ntmps8
  go_wp2_with fail
  refine H.out.mono ?_
  rintro e w1 ⟨c1, a, p, g, rfl, ha, hb, hc, _⟩
  rw [cmp256] at ha
  obtain ⟨zs, hzs, hzl⟩ : ∃ zs, List.replicate 256 (0 : Int) = zs ∧ zs.length = 256 := ⟨_, rfl, List.length_replicate⟩
  rw [hzs] at ha
  have HZL := Lib.hid hzl
  clear hzs hzl
  have HA1 := Lib.hid ha
  have HB1 := Lib.hid hb
  have HC1 := Lib.hid hc
  clear H ha hb hc
  go_wp2_with fail
  generalize 1 + n % 60 = z at *
  refine (allocA_any c1 a p g [(0, 256)] [] [] zs z w1 HA1.out (gd256 HZL.out) (by simp) (List.Perm.refl _)).mono ?_
  rw [HCH.out]
  rintro e w2 ⟨F', A', ⟨rfl, c2, ha2, hk2, hc2, hn2⟩, hg2, hp2, _⟩
  obtain rfl : A' = [(0, s)] := List.perm_singleton.1 hp2
  have hb3 : Below w2.heap.size w2 (w2.alloc (.cells #[.int .i64 0, .int .i64 s] 31)) := (Below.refl _ _).alloc (Nat.le_refl _) _
  have HE3 := Lib.hid (Box.new (w := w2) (x := 0) (y := s))
  have HA3 := Lib.hid (ha2.go hb3)
  have HG2 := Lib.hid hg2
  have HK3 := Lib.hid (hk2.trans (KS.ofBelow (c := c2) hb3) hc2)
  have HC2 : Hid ((∀ x, x < w.heap.size → c2 x = 0) ∧ c2 w2.heap.size = 9 ∧ ∀ x, x < w1.heap.size → c2 x = c1 x) := Lib.hid ⟨fun x hx => by
    have := HB1.out.size
    rw [hc2 x (by omega)]; exact HC1.out x hx, hn2 _ (Nat.le_refl _), hc2⟩
  clear ha2 hk2 hc2 hn2 hg2 hp2 hb3
  simp only [rV]
  have e0 := HE3.out.cell0
  have e1 := HE3.out.cell1
  go_wp2_with fail
  generalize w2.alloc (.cells #[.int .i64 0, .int .i64 s] 31) = w3 at *
  generalize w2.heap.size = t at *
  skip
  generalize v / 72057594037927936 = V at *
  refine (storeA_any c2 a p g F' [(0, s)] zs 0 s M V 1 w3 HA3.out HG2.out (by simp)).mono ?_
  rintro e w4 ⟨rfl, c4, ha4, hk4, hc4, _⟩
  have HE4 : Hid (Box w4 t 0 s) := Lib.hid (HE3.out.ks hk4 (by rw [HC2.out.2.1]; exact sp_not (by omega) (by omega)))
  have HA4 := Lib.hid ha4
  have HG4 : Hid (Gd ((stB [((0 : Int), s)] zs 0 s M 1 V).length : Int) F' [(0, s)]) := Lib.hid (by rw [stB_len]; exact HG2.out)
  have HK4 := Lib.hid (HK3.out.trans hk4 HC2.out.2.2)
  have HBL : Hid (Below w.heap.size w w4) := Lib.hid (Below.trans HB1.out (HK4.out.below (B := w.heap.size) (fun x hx => by rw [HC1.out x hx]; exact sp_not (by omega) (by omega)) HB1.out.size))
  have hsz4 : w.heap.size ≤ w4.heap.size := HBL.out.size
  have e2 := HE4.out.cell0
  have e3 := HE4.out.cell1
  clear ha4 hk4 hc4 e0 e1 HE3 HA3 HK4 HK3 HG2 HC1 HC2 HB1 HA1 HCH
  by_cases hfit : (M : Int) + 1 ≤ s
  · obtain ⟨l1, l2, l3, l4⟩ := little_ld HZL.out (at_ := M) (N := 1) s2 (by omega) (by omega) HV.out.1 HV.out.2
    have l1' : numC [((0 : Int), s)] 0 s M 1 = 0 := l1
    have l2' : stC [((0 : Int), s)] 0 s M 1 V = 0 := l2
    have L1 := Lib.hid l1'
    have L3 := Lib.hid l3
    have L4 := Lib.hid l4
    rw [l2']
    clear l1 l2 l3 l4 l1' l2'
    generalize stB [((0 : Int), s)] zs 0 s M 1 V = bs at *
    go_wp2_with fail
    refine (loadA_any c4 a p g F' [(0, s)] bs 0 s M 1 w4 HA4.out HG4.out (by simp)).mono ?_
    have L3' : ldR [((0 : Int), s)] bs 0 s M 1 = V := L3.out
    rw [L3', L1.out]
    rintro e w5 ⟨rfl, hb5⟩
    have HB5 := Lib.hid (Below.then HBL.out hb5 (Nat.le_refl _))
    have HA5 := Lib.hid (HA4.out.go hb5)
    have HE5 := Lib.hid (HE4.out.go hb5)
    clear hb5 e2 e3 L3 L3' HA4 HE4
    go_wp2
    go_loopw [17] (fun iv wr => ∃ (i : Nat), i ≤ 1 ∧ iv = .int .i64 i ∧ Hid (Below w5.heap.size w5 wr)) (fun iv _ => 1 - (intOf iv).toNat)
    case atStart => exact ⟨0, by omega, rfl, Lib.hid (Below.refl _ _)⟩
    case round =>
      obtain ⟨i, hi, rfl, hh⟩ := hrel
      by_cases hlt : i < 1
      · have hlt' : (i : Int) < 1 := by omega
        have HE6 := Lib.hid (HE5.out.go hh.out)
        have HA6 := Lib.hid (HA5.out.go hh.out)
        have e0 := HE6.out.cell0
        have e1 := HE6.out.cell1
        obtain ⟨k1, k2⟩ := L4.out i hlt
        have K1 := Lib.hid k1
        have K2 := Lib.hid k2
        have hbits : bits .and .u64 (V / 2 ^ (8 * i)) 255 = V / 256 ^ i % 256 := by
          rw [pow256]
          have p1 := pow256_pos i
          have q1 := Int.ediv_nonneg HV.out.1 (Int.le_of_lt p1)
          have q2 := Int.ediv_le_self (256 ^ i) HV.out.1
          have q3 : (256 : Int) ^ 1 ≤ 18446744073709551616 := by decide
          have q4 := HV.out.2
          exact and255_64 _ q1 (by omega)
        have HBT := Lib.hid hbits
        clear k1 k2 hbits
        go_wp2_with fail
        refine (loadA_any c4 a p g F' [(0, s)] bs 0 s ((M : Int) + i) 1 wr HA6.out HG4.out (by simp)).mono ?_
        rw [K1.out, K2.out, ← HBT.out]
        rintro e w6 ⟨rfl, hb6⟩
        have HB6 := Lib.hid (Below.then hh.out hb6 (Nat.le_refl _))
        clear hb6 e0 e1 hh
        go_wp2
        go_roundw
        case rel => exact ⟨i + 1, by omega, by go_num, HB6⟩
        case measure => simp [intOf]; omega
      · obtain rfl : i = 1 := by omega
        have HB6 := Lib.hid (Below.then HB5.out hh.out (Nat.le_refl _))
        clear hh
        go_wp2_with fail
        refine (HA.out wr).mono ?_
        rintro e w7 ⟨rfl, hb7⟩
        have HB7 := Lib.hid (Below.then HB6.out hb7 (Nat.le_refl _))
        go_wp2
        go_ret
        exact ⟨rfl, HB7.out⟩
  · rw [little_bad (at_ := M) (N := 1) (by omega) (by omega)]
    have hfit' : s < (M : Int) + 1 := by omega
    go_wp2_with fail
    refine (HA.out w4).mono ?_
    rintro e w5 ⟨rfl, hb5⟩
    have HB5 := Lib.hid (Below.then HBL.out hb5 (Nat.le_refl _))
    go_wp2
    go_ret
    exact ⟨rfl, HB5.out⟩
theorem little_1 (n m v w0 : Int) (w : World) (hn : 0 ≤ n ∧ n ≤ 255) (hm : 0 ≤ m ∧ m ≤ 255) (hv : 0 ≤ v ∧ v < 18446744073709551616) (hw : 0 ≤ w0 ∧ w0 ≤ 255) (h4 : w0 % 4 = 1) :
    Calls Try.prog 8 #[.int .u8 n, .int .u8 m, .int .u8 w0, .int .u64 v] w fun e w' => e = .returned (.bool true) ∧ Below w.heap.size w w' := by
  obtain ⟨n0, n1⟩ := hn
  obtain ⟨m0, m1⟩ := hm
  obtain ⟨v0, v1⟩ := hv
  obtain ⟨w00, w01⟩ := hw
  have H := Lib.hid (newA_ok (fun _ => 0) 256 w (by omega))
  have HA := Lib.hid (fun W => awake_any W)
  obtain ⟨M, rfl⟩ := Int.eq_ofNat_of_zero_le m0
  obtain ⟨s, hch, s1, s2, s3⟩ := ch_whole (n := 256) (z := 1 + n % 60) (by omega) (by omega) (by omega)
  have HCH := Lib.hid hch
  have HV : Hid (0 ≤ v / 281474976710656 ∧ v / 281474976710656 < 256 ^ 2) := Lib.hid (by
    have e1 : (256 : Int) ^ 2 = 65536 := by decide
    rw [e1]
    omega)
  have hz1 : 1 ≤ 1 + n % 60 := by omega
  have hz2 : 1 + n % 60 ≤ 64 := by omega
  clear hch
  go_enter Try.func8, Try.ntmps8
  go_wp2_with fail
  refine H.out.mono ?_
  rintro e w1 ⟨c1, a, p, g, rfl, ha, hb, hc, _⟩
  rw [cmp256] at ha
  obtain ⟨zs, hzs, hzl⟩ : ∃ zs, List.replicate 256 (0 : Int) = zs ∧ zs.length = 256 := ⟨_, rfl, List.length_replicate⟩
  rw [hzs] at ha
  have HZL := Lib.hid hzl
  clear hzs hzl
  have HA1 := Lib.hid ha
  have HB1 := Lib.hid hb
  have HC1 := Lib.hid hc
  clear H ha hb hc
  go_wp2_with fail
  generalize 1 + n % 60 = z at *
  refine (allocA_any c1 a p g [(0, 256)] [] [] zs z w1 HA1.out (gd256 HZL.out) (by simp) (List.Perm.refl _)).mono ?_
  rw [HCH.out]
  rintro e w2 ⟨F', A', ⟨rfl, c2, ha2, hk2, hc2, hn2⟩, hg2, hp2, _⟩
  obtain rfl : A' = [(0, s)] := List.perm_singleton.1 hp2
  have hb3 : Below w2.heap.size w2 (w2.alloc (.cells #[.int .i64 0, .int .i64 s] 31)) := (Below.refl _ _).alloc (Nat.le_refl _) _
  have HE3 := Lib.hid (Box.new (w := w2) (x := 0) (y := s))
  have HA3 := Lib.hid (ha2.go hb3)
  have HG2 := Lib.hid hg2
  have HK3 := Lib.hid (hk2.trans (KS.ofBelow (c := c2) hb3) hc2)
  have HC2 : Hid ((∀ x, x < w.heap.size → c2 x = 0) ∧ c2 w2.heap.size = 9 ∧ ∀ x, x < w1.heap.size → c2 x = c1 x) := Lib.hid ⟨fun x hx => by
    have := HB1.out.size
    rw [hc2 x (by omega)]; exact HC1.out x hx, hn2 _ (Nat.le_refl _), hc2⟩
  clear ha2 hk2 hc2 hn2 hg2 hp2 hb3
  simp only [rV]
  have e0 := HE3.out.cell0
  have e1 := HE3.out.cell1
  go_wp2_with fail
  generalize w2.alloc (.cells #[.int .i64 0, .int .i64 s] 31) = w3 at *
  generalize w2.heap.size = t at *
  skip
  generalize v / 281474976710656 = V at *
  refine (storeA_any c2 a p g F' [(0, s)] zs 0 s M V 2 w3 HA3.out HG2.out (by simp)).mono ?_
  rintro e w4 ⟨rfl, c4, ha4, hk4, hc4, _⟩
  have HE4 : Hid (Box w4 t 0 s) := Lib.hid (HE3.out.ks hk4 (by rw [HC2.out.2.1]; exact sp_not (by omega) (by omega)))
  have HA4 := Lib.hid ha4
  have HG4 : Hid (Gd ((stB [((0 : Int), s)] zs 0 s M 2 V).length : Int) F' [(0, s)]) := Lib.hid (by rw [stB_len]; exact HG2.out)
  have HK4 := Lib.hid (HK3.out.trans hk4 HC2.out.2.2)
  have HBL : Hid (Below w.heap.size w w4) := Lib.hid (Below.trans HB1.out (HK4.out.below (B := w.heap.size) (fun x hx => by rw [HC1.out x hx]; exact sp_not (by omega) (by omega)) HB1.out.size))
  have hsz4 : w.heap.size ≤ w4.heap.size := HBL.out.size
  have e2 := HE4.out.cell0
  have e3 := HE4.out.cell1
  clear ha4 hk4 hc4 e0 e1 HE3 HA3 HK4 HK3 HG2 HC1 HC2 HB1 HA1 HCH
  by_cases hfit : (M : Int) + 2 ≤ s
  · obtain ⟨l1, l2, l3, l4⟩ := little_ld HZL.out (at_ := M) (N := 2) s2 (by omega) (by omega) HV.out.1 HV.out.2
    have l1' : numC [((0 : Int), s)] 0 s M 2 = 0 := l1
    have l2' : stC [((0 : Int), s)] 0 s M 2 V = 0 := l2
    have L1 := Lib.hid l1'
    have L3 := Lib.hid l3
    have L4 := Lib.hid l4
    rw [l2']
    clear l1 l2 l3 l4 l1' l2'
    generalize stB [((0 : Int), s)] zs 0 s M 2 V = bs at *
    go_wp2_with fail
    refine (loadA_any c4 a p g F' [(0, s)] bs 0 s M 2 w4 HA4.out HG4.out (by simp)).mono ?_
    have L3' : ldR [((0 : Int), s)] bs 0 s M 2 = V := L3.out
    rw [L3', L1.out]
    rintro e w5 ⟨rfl, hb5⟩
    have HB5 := Lib.hid (Below.then HBL.out hb5 (Nat.le_refl _))
    have HA5 := Lib.hid (HA4.out.go hb5)
    have HE5 := Lib.hid (HE4.out.go hb5)
    clear hb5 e2 e3 L3 L3' HA4 HE4
    go_wp2
    go_loopw [17] (fun iv wr => ∃ (i : Nat), i ≤ 2 ∧ iv = .int .i64 i ∧ Hid (Below w5.heap.size w5 wr)) (fun iv _ => 2 - (intOf iv).toNat)
    case atStart => exact ⟨0, by omega, rfl, Lib.hid (Below.refl _ _)⟩
    case round =>
      obtain ⟨i, hi, rfl, hh⟩ := hrel
      by_cases hlt : i < 2
      · have hlt' : (i : Int) < 2 := by omega
        have HE6 := Lib.hid (HE5.out.go hh.out)
        have HA6 := Lib.hid (HA5.out.go hh.out)
        have e0 := HE6.out.cell0
        have e1 := HE6.out.cell1
        obtain ⟨k1, k2⟩ := L4.out i hlt
        have K1 := Lib.hid k1
        have K2 := Lib.hid k2
        have hbits : bits .and .u64 (V / 2 ^ (8 * i)) 255 = V / 256 ^ i % 256 := by
          rw [pow256]
          have p1 := pow256_pos i
          have q1 := Int.ediv_nonneg HV.out.1 (Int.le_of_lt p1)
          have q2 := Int.ediv_le_self (256 ^ i) HV.out.1
          have q3 : (256 : Int) ^ 2 ≤ 18446744073709551616 := by decide
          have q4 := HV.out.2
          exact and255_64 _ q1 (by omega)
        have HBT := Lib.hid hbits
        clear k1 k2 hbits
        go_wp2_with fail
        refine (loadA_any c4 a p g F' [(0, s)] bs 0 s ((M : Int) + i) 1 wr HA6.out HG4.out (by simp)).mono ?_
        rw [K1.out, K2.out, ← HBT.out]
        rintro e w6 ⟨rfl, hb6⟩
        have HB6 := Lib.hid (Below.then hh.out hb6 (Nat.le_refl _))
        clear hb6 e0 e1 hh
        go_wp2
        go_roundw
        case rel => exact ⟨i + 1, by omega, by go_num, HB6⟩
        case measure => simp [intOf]; omega
      · obtain rfl : i = 2 := by omega
        have HB6 := Lib.hid (Below.then HB5.out hh.out (Nat.le_refl _))
        clear hh
        go_wp2_with fail
        refine (HA.out wr).mono ?_
        rintro e w7 ⟨rfl, hb7⟩
        have HB7 := Lib.hid (Below.then HB6.out hb7 (Nat.le_refl _))
        go_wp2
        go_ret
        exact ⟨rfl, HB7.out⟩
  · rw [little_bad (at_ := M) (N := 2) (by omega) (by omega)]
    have hfit' : s < (M : Int) + 2 := by omega
    go_wp2_with fail
    refine (HA.out w4).mono ?_
    rintro e w5 ⟨rfl, hb5⟩
    have HB5 := Lib.hid (Below.then HBL.out hb5 (Nat.le_refl _))
    go_wp2
    go_ret
    exact ⟨rfl, HB5.out⟩
theorem little_2 (n m v w0 : Int) (w : World) (hn : 0 ≤ n ∧ n ≤ 255) (hm : 0 ≤ m ∧ m ≤ 255) (hv : 0 ≤ v ∧ v < 18446744073709551616) (hw : 0 ≤ w0 ∧ w0 ≤ 255) (h4 : w0 % 4 = 2) :
    Calls Try.prog 8 #[.int .u8 n, .int .u8 m, .int .u8 w0, .int .u64 v] w fun e w' => e = .returned (.bool true) ∧ Below w.heap.size w w' := by
  obtain ⟨n0, n1⟩ := hn
  obtain ⟨m0, m1⟩ := hm
  obtain ⟨v0, v1⟩ := hv
  obtain ⟨w00, w01⟩ := hw
  have H := Lib.hid (newA_ok (fun _ => 0) 256 w (by omega))
  have HA := Lib.hid (fun W => awake_any W)
  obtain ⟨M, rfl⟩ := Int.eq_ofNat_of_zero_le m0
  obtain ⟨s, hch, s1, s2, s3⟩ := ch_whole (n := 256) (z := 1 + n % 60) (by omega) (by omega) (by omega)
  have HCH := Lib.hid hch
  have HV : Hid (0 ≤ v / 4294967296 ∧ v / 4294967296 < 256 ^ 4) := Lib.hid (by
    have e1 : (256 : Int) ^ 4 = 4294967296 := by decide
    rw [e1]
    omega)
  have hz1 : 1 ≤ 1 + n % 60 := by omega
  have hz2 : 1 + n % 60 ≤ 64 := by omega
  clear hch
  go_enter Try.func8, Try.ntmps8
  go_wp2_with fail
  refine H.out.mono ?_
  rintro e w1 ⟨c1, a, p, g, rfl, ha, hb, hc, _⟩
  rw [cmp256] at ha
  obtain ⟨zs, hzs, hzl⟩ : ∃ zs, List.replicate 256 (0 : Int) = zs ∧ zs.length = 256 := ⟨_, rfl, List.length_replicate⟩
  rw [hzs] at ha
  have HZL := Lib.hid hzl
  clear hzs hzl
  have HA1 := Lib.hid ha
  have HB1 := Lib.hid hb
  have HC1 := Lib.hid hc
  clear H ha hb hc
  go_wp2_with fail
  generalize 1 + n % 60 = z at *
  refine (allocA_any c1 a p g [(0, 256)] [] [] zs z w1 HA1.out (gd256 HZL.out) (by simp) (List.Perm.refl _)).mono ?_
  rw [HCH.out]
  rintro e w2 ⟨F', A', ⟨rfl, c2, ha2, hk2, hc2, hn2⟩, hg2, hp2, _⟩
  obtain rfl : A' = [(0, s)] := List.perm_singleton.1 hp2
  have hb3 : Below w2.heap.size w2 (w2.alloc (.cells #[.int .i64 0, .int .i64 s] 31)) := (Below.refl _ _).alloc (Nat.le_refl _) _
  have HE3 := Lib.hid (Box.new (w := w2) (x := 0) (y := s))
  have HA3 := Lib.hid (ha2.go hb3)
  have HG2 := Lib.hid hg2
  have HK3 := Lib.hid (hk2.trans (KS.ofBelow (c := c2) hb3) hc2)
  have HC2 : Hid ((∀ x, x < w.heap.size → c2 x = 0) ∧ c2 w2.heap.size = 9 ∧ ∀ x, x < w1.heap.size → c2 x = c1 x) := Lib.hid ⟨fun x hx => by
    have := HB1.out.size
    rw [hc2 x (by omega)]; exact HC1.out x hx, hn2 _ (Nat.le_refl _), hc2⟩
  clear ha2 hk2 hc2 hn2 hg2 hp2 hb3
  simp only [rV]
  have e0 := HE3.out.cell0
  have e1 := HE3.out.cell1
  go_wp2_with fail
  generalize w2.alloc (.cells #[.int .i64 0, .int .i64 s] 31) = w3 at *
  generalize w2.heap.size = t at *
  skip
  generalize v / 4294967296 = V at *
  refine (storeA_any c2 a p g F' [(0, s)] zs 0 s M V 4 w3 HA3.out HG2.out (by simp)).mono ?_
  rintro e w4 ⟨rfl, c4, ha4, hk4, hc4, _⟩
  have HE4 : Hid (Box w4 t 0 s) := Lib.hid (HE3.out.ks hk4 (by rw [HC2.out.2.1]; exact sp_not (by omega) (by omega)))
  have HA4 := Lib.hid ha4
  have HG4 : Hid (Gd ((stB [((0 : Int), s)] zs 0 s M 4 V).length : Int) F' [(0, s)]) := Lib.hid (by rw [stB_len]; exact HG2.out)
  have HK4 := Lib.hid (HK3.out.trans hk4 HC2.out.2.2)
  have HBL : Hid (Below w.heap.size w w4) := Lib.hid (Below.trans HB1.out (HK4.out.below (B := w.heap.size) (fun x hx => by rw [HC1.out x hx]; exact sp_not (by omega) (by omega)) HB1.out.size))
  have hsz4 : w.heap.size ≤ w4.heap.size := HBL.out.size
  have e2 := HE4.out.cell0
  have e3 := HE4.out.cell1
  clear ha4 hk4 hc4 e0 e1 HE3 HA3 HK4 HK3 HG2 HC1 HC2 HB1 HA1 HCH
  by_cases hfit : (M : Int) + 4 ≤ s
  · obtain ⟨l1, l2, l3, l4⟩ := little_ld HZL.out (at_ := M) (N := 4) s2 (by omega) (by omega) HV.out.1 HV.out.2
    have l1' : numC [((0 : Int), s)] 0 s M 4 = 0 := l1
    have l2' : stC [((0 : Int), s)] 0 s M 4 V = 0 := l2
    have L1 := Lib.hid l1'
    have L3 := Lib.hid l3
    have L4 := Lib.hid l4
    rw [l2']
    clear l1 l2 l3 l4 l1' l2'
    generalize stB [((0 : Int), s)] zs 0 s M 4 V = bs at *
    go_wp2_with fail
    refine (loadA_any c4 a p g F' [(0, s)] bs 0 s M 4 w4 HA4.out HG4.out (by simp)).mono ?_
    have L3' : ldR [((0 : Int), s)] bs 0 s M 4 = V := L3.out
    rw [L3', L1.out]
    rintro e w5 ⟨rfl, hb5⟩
    have HB5 := Lib.hid (Below.then HBL.out hb5 (Nat.le_refl _))
    have HA5 := Lib.hid (HA4.out.go hb5)
    have HE5 := Lib.hid (HE4.out.go hb5)
    clear hb5 e2 e3 L3 L3' HA4 HE4
    go_wp2
    go_loopw [17] (fun iv wr => ∃ (i : Nat), i ≤ 4 ∧ iv = .int .i64 i ∧ Hid (Below w5.heap.size w5 wr)) (fun iv _ => 4 - (intOf iv).toNat)
    case atStart => exact ⟨0, by omega, rfl, Lib.hid (Below.refl _ _)⟩
    case round =>
      obtain ⟨i, hi, rfl, hh⟩ := hrel
      by_cases hlt : i < 4
      · have hlt' : (i : Int) < 4 := by omega
        have HE6 := Lib.hid (HE5.out.go hh.out)
        have HA6 := Lib.hid (HA5.out.go hh.out)
        have e0 := HE6.out.cell0
        have e1 := HE6.out.cell1
        obtain ⟨k1, k2⟩ := L4.out i hlt
        have K1 := Lib.hid k1
        have K2 := Lib.hid k2
        have hbits : bits .and .u64 (V / 2 ^ (8 * i)) 255 = V / 256 ^ i % 256 := by
          rw [pow256]
          have p1 := pow256_pos i
          have q1 := Int.ediv_nonneg HV.out.1 (Int.le_of_lt p1)
          have q2 := Int.ediv_le_self (256 ^ i) HV.out.1
          have q3 : (256 : Int) ^ 4 ≤ 18446744073709551616 := by decide
          have q4 := HV.out.2
          exact and255_64 _ q1 (by omega)
        have HBT := Lib.hid hbits
        clear k1 k2 hbits
        go_wp2_with fail
        refine (loadA_any c4 a p g F' [(0, s)] bs 0 s ((M : Int) + i) 1 wr HA6.out HG4.out (by simp)).mono ?_
        rw [K1.out, K2.out, ← HBT.out]
        rintro e w6 ⟨rfl, hb6⟩
        have HB6 := Lib.hid (Below.then hh.out hb6 (Nat.le_refl _))
        clear hb6 e0 e1 hh
        go_wp2
        go_roundw
        case rel => exact ⟨i + 1, by omega, by go_num, HB6⟩
        case measure => simp [intOf]; omega
      · obtain rfl : i = 4 := by omega
        have HB6 := Lib.hid (Below.then HB5.out hh.out (Nat.le_refl _))
        clear hh
        go_wp2_with fail
        refine (HA.out wr).mono ?_
        rintro e w7 ⟨rfl, hb7⟩
        have HB7 := Lib.hid (Below.then HB6.out hb7 (Nat.le_refl _))
        go_wp2
        go_ret
        exact ⟨rfl, HB7.out⟩
  · rw [little_bad (at_ := M) (N := 4) (by omega) (by omega)]
    have hfit' : s < (M : Int) + 4 := by omega
    go_wp2_with fail
    refine (HA.out w4).mono ?_
    rintro e w5 ⟨rfl, hb5⟩
    have HB5 := Lib.hid (Below.then HBL.out hb5 (Nat.le_refl _))
    go_wp2
    go_ret
    exact ⟨rfl, HB5.out⟩
theorem little_3 (n m v w0 : Int) (w : World) (hn : 0 ≤ n ∧ n ≤ 255) (hm : 0 ≤ m ∧ m ≤ 255) (hv : 0 ≤ v ∧ v < 18446744073709551616) (hw : 0 ≤ w0 ∧ w0 ≤ 255) (h4 : w0 % 4 = 3) :
    Calls Try.prog 8 #[.int .u8 n, .int .u8 m, .int .u8 w0, .int .u64 v] w fun e w' => e = .returned (.bool true) ∧ Below w.heap.size w w' := by
  obtain ⟨n0, n1⟩ := hn
  obtain ⟨m0, m1⟩ := hm
  obtain ⟨v0, v1⟩ := hv
  obtain ⟨w00, w01⟩ := hw
  have H := Lib.hid (newA_ok (fun _ => 0) 256 w (by omega))
  have HA := Lib.hid (fun W => awake_any W)
  obtain ⟨M, rfl⟩ := Int.eq_ofNat_of_zero_le m0
  obtain ⟨s, hch, s1, s2, s3⟩ := ch_whole (n := 256) (z := 1 + n % 60) (by omega) (by omega) (by omega)
  have HCH := Lib.hid hch
  have HV : Hid (0 ≤ v ∧ v < 256 ^ 8) := Lib.hid (by
    have e1 : (256 : Int) ^ 8 = 18446744073709551616 := by decide
    rw [e1]
    omega)
  have hz1 : 1 ≤ 1 + n % 60 := by omega
  have hz2 : 1 + n % 60 ≤ 64 := by omega
  clear hch
  go_enter Try.func8, Try.ntmps8
  go_wp2_with fail
  refine H.out.mono ?_
  rintro e w1 ⟨c1, a, p, g, rfl, ha, hb, hc, _⟩
  rw [cmp256] at ha
  obtain ⟨zs, hzs, hzl⟩ : ∃ zs, List.replicate 256 (0 : Int) = zs ∧ zs.length = 256 := ⟨_, rfl, List.length_replicate⟩
  rw [hzs] at ha
  have HZL := Lib.hid hzl
  clear hzs hzl
  have HA1 := Lib.hid ha
  have HB1 := Lib.hid hb
  have HC1 := Lib.hid hc
  clear H ha hb hc
  go_wp2_with fail
  generalize 1 + n % 60 = z at *
  refine (allocA_any c1 a p g [(0, 256)] [] [] zs z w1 HA1.out (gd256 HZL.out) (by simp) (List.Perm.refl _)).mono ?_
  rw [HCH.out]
  rintro e w2 ⟨F', A', ⟨rfl, c2, ha2, hk2, hc2, hn2⟩, hg2, hp2, _⟩
  obtain rfl : A' = [(0, s)] := List.perm_singleton.1 hp2
  have hb3 : Below w2.heap.size w2 (w2.alloc (.cells #[.int .i64 0, .int .i64 s] 31)) := (Below.refl _ _).alloc (Nat.le_refl _) _
  have HE3 := Lib.hid (Box.new (w := w2) (x := 0) (y := s))
  have HA3 := Lib.hid (ha2.go hb3)
  have HG2 := Lib.hid hg2
  have HK3 := Lib.hid (hk2.trans (KS.ofBelow (c := c2) hb3) hc2)
  have HC2 : Hid ((∀ x, x < w.heap.size → c2 x = 0) ∧ c2 w2.heap.size = 9 ∧ ∀ x, x < w1.heap.size → c2 x = c1 x) := Lib.hid ⟨fun x hx => by
    have := HB1.out.size
    rw [hc2 x (by omega)]; exact HC1.out x hx, hn2 _ (Nat.le_refl _), hc2⟩
  clear ha2 hk2 hc2 hn2 hg2 hp2 hb3
  simp only [rV]
  have e0 := HE3.out.cell0
  have e1 := HE3.out.cell1
  go_wp2_with fail
  generalize w2.alloc (.cells #[.int .i64 0, .int .i64 s] 31) = w3 at *
  generalize w2.heap.size = t at *
  skip
  skip
  refine (storeA_any c2 a p g F' [(0, s)] zs 0 s M v 8 w3 HA3.out HG2.out (by simp)).mono ?_
  rintro e w4 ⟨rfl, c4, ha4, hk4, hc4, _⟩
  have HE4 : Hid (Box w4 t 0 s) := Lib.hid (HE3.out.ks hk4 (by rw [HC2.out.2.1]; exact sp_not (by omega) (by omega)))
  have HA4 := Lib.hid ha4
  have HG4 : Hid (Gd ((stB [((0 : Int), s)] zs 0 s M 8 v).length : Int) F' [(0, s)]) := Lib.hid (by rw [stB_len]; exact HG2.out)
  have HK4 := Lib.hid (HK3.out.trans hk4 HC2.out.2.2)
  have HBL : Hid (Below w.heap.size w w4) := Lib.hid (Below.trans HB1.out (HK4.out.below (B := w.heap.size) (fun x hx => by rw [HC1.out x hx]; exact sp_not (by omega) (by omega)) HB1.out.size))
  have hsz4 : w.heap.size ≤ w4.heap.size := HBL.out.size
  have e2 := HE4.out.cell0
  have e3 := HE4.out.cell1
  clear ha4 hk4 hc4 e0 e1 HE3 HA3 HK4 HK3 HG2 HC1 HC2 HB1 HA1 HCH
  by_cases hfit : (M : Int) + 8 ≤ s
  · obtain ⟨l1, l2, l3, l4⟩ := little_ld HZL.out (at_ := M) (N := 8) s2 (by omega) (by omega) HV.out.1 HV.out.2
    have l1' : numC [((0 : Int), s)] 0 s M 8 = 0 := l1
    have l2' : stC [((0 : Int), s)] 0 s M 8 v = 0 := l2
    have L1 := Lib.hid l1'
    have L3 := Lib.hid l3
    have L4 := Lib.hid l4
    rw [l2']
    clear l1 l2 l3 l4 l1' l2'
    generalize stB [((0 : Int), s)] zs 0 s M 8 v = bs at *
    go_wp2_with fail
    refine (loadA_any c4 a p g F' [(0, s)] bs 0 s M 8 w4 HA4.out HG4.out (by simp)).mono ?_
    have L3' : ldR [((0 : Int), s)] bs 0 s M 8 = v := L3.out
    rw [L3', L1.out]
    rintro e w5 ⟨rfl, hb5⟩
    have HB5 := Lib.hid (Below.then HBL.out hb5 (Nat.le_refl _))
    have HA5 := Lib.hid (HA4.out.go hb5)
    have HE5 := Lib.hid (HE4.out.go hb5)
    clear hb5 e2 e3 L3 L3' HA4 HE4
    go_wp2
    go_loopw [17] (fun iv wr => ∃ (i : Nat), i ≤ 8 ∧ iv = .int .i64 i ∧ Hid (Below w5.heap.size w5 wr)) (fun iv _ => 8 - (intOf iv).toNat)
    case atStart => exact ⟨0, by omega, rfl, Lib.hid (Below.refl _ _)⟩
    case round =>
      obtain ⟨i, hi, rfl, hh⟩ := hrel
      by_cases hlt : i < 8
      · have hlt' : (i : Int) < 8 := by omega
        have HE6 := Lib.hid (HE5.out.go hh.out)
        have HA6 := Lib.hid (HA5.out.go hh.out)
        have e0 := HE6.out.cell0
        have e1 := HE6.out.cell1
        obtain ⟨k1, k2⟩ := L4.out i hlt
        have K1 := Lib.hid k1
        have K2 := Lib.hid k2
        have hbits : bits .and .u64 (v / 2 ^ (8 * i)) 255 = v / 256 ^ i % 256 := by
          rw [pow256]
          have p1 := pow256_pos i
          have q1 := Int.ediv_nonneg HV.out.1 (Int.le_of_lt p1)
          have q2 := Int.ediv_le_self (256 ^ i) HV.out.1
          have q3 : (256 : Int) ^ 8 ≤ 18446744073709551616 := by decide
          have q4 := HV.out.2
          exact and255_64 _ q1 (by omega)
        have HBT := Lib.hid hbits
        clear k1 k2 hbits
        go_wp2_with fail
        refine (loadA_any c4 a p g F' [(0, s)] bs 0 s ((M : Int) + i) 1 wr HA6.out HG4.out (by simp)).mono ?_
        rw [K1.out, K2.out, ← HBT.out]
        rintro e w6 ⟨rfl, hb6⟩
        have HB6 := Lib.hid (Below.then hh.out hb6 (Nat.le_refl _))
        clear hb6 e0 e1 hh
        go_wp2
        go_roundw
        case rel => exact ⟨i + 1, by omega, by go_num, HB6⟩
        case measure => simp [intOf]; omega
      · obtain rfl : i = 8 := by omega
        have HB6 := Lib.hid (Below.then HB5.out hh.out (Nat.le_refl _))
        clear hh
        go_wp2_with fail
        refine (HA.out wr).mono ?_
        rintro e w7 ⟨rfl, hb7⟩
        have HB7 := Lib.hid (Below.then HB6.out hb7 (Nat.le_refl _))
        go_wp2
        go_ret
        exact ⟨rfl, HB7.out⟩
  · rw [little_bad (at_ := M) (N := 8) (by omega) (by omega)]
    have hfit' : s < (M : Int) + 8 := by omega
    go_wp2_with fail
    refine (HA.out w4).mono ?_
    rintro e w5 ⟨rfl, hb5⟩
    have HB5 := Lib.hid (Below.then HBL.out hb5 (Nat.le_refl _))
    go_wp2
    go_ret
    exact ⟨rfl, HB5.out⟩
theorem arenaLittle_walk (n m w0 v : Int) (w : World) (hn : (Lit.int .u8 n).wf = true) (hm : (Lit.int .u8 m).wf = true) (hw : (Lit.int .u8 w0).wf = true) (hv : (Lit.int .u64 v).wf = true) :
    Calls Try.prog 8 #[.int .u8 n, .int .u8 m, .int .u8 w0, .int .u64 v] w fun e w' => e = .returned (.bool true) ∧ Below w.heap.size w w' := by
  have h0 := byte_bd hw
  have h4 : w0 % 4 = 0 ∨ w0 % 4 = 1 ∨ w0 % 4 = 2 ∨ w0 % 4 = 3 := by omega
  rcases h4 with h4 | h4 | h4 | h4
  · exact little_0 n m v w0 w (byte_bd hn) (byte_bd hm) (u64_bd hv) h0 h4
  · exact little_1 n m v w0 w (byte_bd hn) (byte_bd hm) (u64_bd hv) h0 h4
  · exact little_2 n m v w0 w (byte_bd hn) (byte_bd hm) (u64_bd hv) h0 h4
  · exact little_3 n m v w0 w (byte_bd hn) (byte_bd hm) (u64_bd hv) h0 h4
end Go.Proofs.Ytfchccgajcjbbaa
