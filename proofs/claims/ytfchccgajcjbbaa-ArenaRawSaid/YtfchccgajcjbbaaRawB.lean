/-
  The law ArenaRaw as a walk, where more than a hundred bytes are asked for: it returns true and changes nothing that was there. Conditions: n above 100.
-/
import Derived.Test.YtfchccgajcjbbaaHlp
namespace Go.Proofs.Ytfchccgajcjbbaa
open Go.ChangeShapes Go.WideShapes Go.ChangeAt Go.RowKit
set_option linter.unusedVariables false
set_option maxHeartbeats 16000000
set_option maxRecDepth 100000

theorem arenaRaw_gt (r : Int) (At : Option Addr) (m ct : Nat) (ex ey dx dy k wd n v at_ : Int) (w : World) (hr : (Lit.int .u8 r).wf = true) (ht : Hex w w.heap.size At m ct) (_he : (Lit.int .i64 ex).wf = true) (_he2 : (Lit.int .i64 ey).wf = true) (_hd : (Lit.int .i64 dx).wf = true) (_hd2 : (Lit.int .i64 dy).wf = true) (_hk : (Lit.int .i64 k).wf = true) (_hw : (Lit.int .i64 wd).wf = true) (hn : (Lit.int .i64 n).wf = true) (hv : (Lit.int .u64 v).wf = true) (hat : (Lit.int .u8 at_).wf = true) (hbig : ¬ n ≤ 100) :
    Calls Try.prog 4 #[.int .u8 r, .slice At m ct, .agg #[.int .i64 ex, .int .i64 ey], .agg #[.int .i64 dx, .int .i64 dy], .int .i64 k, .int .i64 wd, .int .i64 n, .int .u64 v, .int .u8 at_] w fun e w' => e = .returned (.bool true) ∧ Below w.heap.size w w' := by
  obtain ⟨t0, t1⟩ := byte_bd hat
  obtain ⟨v0, v1⟩ := u64_bd hv
  have hnb := Go.bounds_i64 hn
  have HV := Lib.hid (And.intro v0 v1)
  have HNB : Hid (n ≤ 9223372036854775807) := Lib.hid (by omega)
  have hb0 : Below w.heap.size w (w.alloc (.cells #[.int .i64 ex, .int .i64 ey] 31)) := (Below.refl _ _).alloc (Nat.le_refl _) _
  have hs0 : (w.alloc (.cells #[.int .i64 ex, .int .i64 ey] 31)).heap.size = w.heap.size + 1 := by simp
  have hb1 : Below w.heap.size w ((w.alloc (.cells #[.int .i64 ex, .int .i64 ey] 31)).alloc (.cells #[.int .i64 dx, .int .i64 dy] 31)) := hb0.alloc hb0.size _
  have hx0 := (Box.new (w := w) (x := ex) (y := ey)).go ((Below.refl _ _).alloc (Nat.le_refl _) (.cells #[.int .i64 dx, .int .i64 dy] 31))
  have hx1 := Box.new (w := w.alloc (.cells #[.int .i64 ex, .int .i64 ey] 31)) (x := dx) (y := dy)
  rw [hs0] at hx1
  have HB1 := Lib.hid hb1
  have HX0 := Lib.hid hx0
  have HX1 := Lib.hid hx1
  have HT := Lib.hid (ht.below hb1)
  have HRB := Lib.hid (byte_bd hr)
  clear hr ht hv hat _he _he2 _hd _hd2 _hk _hw hn hb0 hb1 hx0 hx1 hs0 v0 v1 hnb
  go_enter Try.func4, Try.ntmps4
  go_wp2_with fail
  generalize ((w.alloc (.cells #[.int .i64 ex, .int .i64 ey] 31)).alloc (.cells #[.int .i64 dx, .int .i64 dy] 31)) = w0 at *
  have HT0 : Hid (Hex w0 w0.heap.size At m ct) := Lib.hid ⟨HT.out.cap, HT.out.small, fun i hi => by
    obtain ⟨b, o, x0, x1, x2, x3, x4, x5, e, hlt, hrest⟩ := HT.out.cells i hi
    exact ⟨b, o, x0, x1, x2, x3, x4, x5, e, Nat.lt_of_lt_of_le hlt HB1.out.size, hrest⟩⟩
  have hw0 : w.heap.size + 1 < w0.heap.size := HX1.out.lt
  generalize hta : w.heap.size = ta at *
  have HTA := Lib.hid hta
  clear hta
  generalize htb : ta + 1 = tb at *
  have HTB := Lib.hid htb
  clear htb
  have hta0 : ta < tb := by have := HTB.out; omega
  refine (built_any r At m ct w0 HRB.out HT0.out).mono ?_
  rintro e w1 ⟨c, a, p, g, q, g2, F, A, U, bs, rfl, hs, _, hu, hb, hc⟩
  have hca : c ta = 0 := hc ta (by omega)
  have hcb : c tb = 0 := hc tb (by have := HTB.out; omega)
  have HC0 : Hid (∀ x, x < ta → c x = 0) := Lib.hid (fun x hx => hc x (by omega))
  have hAU := hs.len
  have HPM := Lib.hid hs.pm
  have HS1 := Lib.hid (hs.recol (c' := rc c w1.heap.size 9) (fun x hx => rc_old hx))
  have hca4 : rc c w1.heap.size 9 ta = 0 := (rc_old (by have := hb.size; omega)).trans hca
  have hcb4 : rc c w1.heap.size 9 tb = 0 := (rc_old (by have := hb.size; have := HTB.out; omega)).trans hcb
  have HN4 : Hid ((∀ x, x < ta → rc c w1.heap.size 9 x = 0) ∧ ∀ x, w1.heap.size ≤ x → rc c w1.heap.size 9 x = 9) := Lib.hid ⟨fun x hx => (rc_old (by have := hb.size; omega)).trans (HC0.out x hx), fun x hx => rc_new hx⟩
  generalize rc c w1.heap.size 9 = c4 at *
  have HBA := Lib.hid (HX0.out.go hb)
  have HBB := Lib.hid (HX1.out.go hb)
  have HB2 := Lib.hid (Below.then HB1.out hb (by have := HTA.out; omega))
  have hsz1 : ta < w1.heap.size := HBA.out.lt
  have HI0 := Lib.hid hs.ins
  clear hs hb hc hca hcb HX0 HX1 HT0 HT
  go_wp2_with fail
  refine (extent_any c4 q g2 U bs at_ 0 w1 HS1.out.mr HI0.out (by omega) ⟨t0, t1⟩ (by omega)).mono ?_
  rintro e w2 ⟨x, y, rfl, _, _, hb⟩
  have hb3 : Below w1.heap.size w1 (w2.alloc (.cells #[.int .i64 x, .int .i64 y] 31)) := hb.alloc hb.size _
  have HE3 := Lib.hid (Box.new (w := w2) (x := x) (y := y))
  have HBA3 := Lib.hid (HBA.out.go hb3)
  have HBB3 := Lib.hid (HBB.out.go hb3)
  have HS3 := Lib.hid (HS1.out.go hb3)
  have HB3 := Lib.hid (Below.then HB2.out hb3 (by have := HTA.out; omega))
  have hsz2 : w1.heap.size ≤ w2.heap.size := hb.size
  clear hb hb3 HBA HBB HS1 HB2
  have f0 := HBA3.out.cell0
  have f1 := HBA3.out.cell1
  have f2 := HE3.out.cell0
  have f3 := HE3.out.cell1
  go_wp2
  generalize hw4 : (w2.alloc (.cells #[.int .i64 x, .int .i64 y] 31)) = w4 at *
  have hs4 : w4.heap.size = w2.heap.size + 1 := by rw [← hw4]; simp
  have hle1 : w1.heap.size ≤ w4.heap.size := by rw [hs4]; exact Nat.le_succ_of_le hsz2
  clear hw4
  have hb5 : Below w4.heap.size w4 (w4.alloc (.cells #[.int .i64 ex, .int .i64 ey, .int .i64 x, .int .i64 y] 31)) := (Below.refl _ _).alloc (Nat.le_refl _) _
  have HBK := Lib.hid (heap_alloc_new w4 (.cells #[.int .i64 ex, .int .i64 ey, .int .i64 x, .int .i64 y] 31))
  have HSL : Hid (w4.heap.size < (w4.alloc (.cells #[.int .i64 ex, .int .i64 ey, .int .i64 x, .int .i64 y] 31)).heap.size) := Lib.hid (by simp)
  have HCS : Hid (c4 w4.heap.size = 9) := Lib.hid (HN4.out.2 _ hle1)
  have HBA5 := Lib.hid (HBA3.out.go hb5)
  have HBB5 := Lib.hid (HBB3.out.go hb5)
  have HS5 := Lib.hid (HS3.out.go hb5)
  have HB5 := Lib.hid (Below.then HB3.out hb5 (by have := HTA.out; omega))
  clear hb5 HBA3 HBB3 HE3 HS3 HB3 f0 f1 f2 f3
  generalize w4.alloc (.cells #[.int .i64 ex, .int .i64 ey, .int .i64 x, .int .i64 y] 31) = w5 at *
  rw [hs4] at HBK HSL HCS
  clear hs4 hle1
  generalize w2.heap.size = t2 at *
  go_loopw [49] (fun iv wr => ∃ (i : Nat), i ≤ 2 ∧ iv = .int .i64 i ∧ Hid (∃ b', b'.length = bs.length ∧ ZF F b' ∧ Pos w5 c4 a p g q g2 F A b' U b' wr)) (fun iv _ => 2 - (intOf iv).toNat)
  case atStart => exact ⟨0, by omega, rfl, Lib.hid ⟨bs, rfl, HS5.out.zf, Pos.start HS5.out (Below.refl _ _)⟩⟩
  case round =>
    obtain ⟨i, hi, rfl, hh⟩ := hrel
    obtain ⟨b', hl', hz', hp'⟩ := hh.out
    have HL := Lib.hid hl'
    have HZ := Lib.hid hz'
    have HP := Lib.hid hp'
    have hbk := (hp'.block (k := t2 + 1) HSL.out (by rw [HCS.out]; exact sa_9)).trans HBK.out
    clear hh hl' hz' hp'
    by_cases hlt : i < 2
    · have hlt' : (i : Int) < 2 := by omega
      have hcell : ∃ z1 z2, wr.cell? ⟨t2 + 1, i * 2, none⟩ = some (.int .i64 z1) ∧ wr.cell? ⟨t2 + 1, i * 2 + 1, none⟩ = some (.int .i64 z2) := by
        have hc := fun j => cell_of_row wr (t2 + 1) j _ _ _ hbk
        obtain rfl | rfl : i = 0 ∨ i = 1 := by omega
        · exact ⟨ex, ey, hc 0, hc 1⟩
        · exact ⟨x, y, hc 2, hc 3⟩
      obtain ⟨z1, z2, g0, g1⟩ := hcell
      clear hbk
      obtain ⟨c6, ha6, hm6, hk6, hc6, hn6⟩ := HP.out.ex
      have hb6 : Below wr.heap.size wr (wr.alloc (.cells #[.int .i64 z1, .int .i64 z2] 31)) := (Below.refl _ _).alloc (Nat.le_refl _) _
      have HE6 := Lib.hid (Box.new (w := wr) (x := z1) (y := z2))
      have HA6 := Lib.hid (ha6.go hb6)
      have HM6 := Lib.hid (hm6.go hb6)
      have HD6 := Lib.hid ((HP.out.box HBB5.out (by rw [hcb4]; exact sa_0)).go hb6)
      have HK6 := Lib.hid (hk6.trans (KS.ofBelow hb6) hc6)
      have HC6 := Lib.hid hc6
      have HN6 := Lib.hid hn6
      have HTE : Hid (c6 wr.heap.size = 9) := Lib.hid (hn6 _ (Nat.le_refl _))
      have hle6 : wr.heap.size ≤ (wr.alloc (.cells #[.int .i64 z1, .int .i64 z2] 31)).heap.size := by simp
      have HG6 : Hid (Gd b'.length F A) := Lib.hid (by rw [HL.out]; exact HS5.out.gd)
      have HI6 : Hid (Ins b'.length U) := Lib.hid (by rw [HL.out]; exact HI0.out)
      clear ha6 hm6 hk6 hc6 hn6 hb6
      go_wp2_with fail
      generalize wr.alloc (.cells #[.int .i64 z1, .int .i64 z2] 31) = w6 at *
      have e0 := HE6.out.cell0
      have e1 := HE6.out.cell1
      refine (loadA_any c6 a p g F A b' z1 z2 k wd w6 HA6.out HG6.out (by omega)).mono ?_
      rw [ldR_p HPM.out, numC_p HPM.out]
      rintro e w7 ⟨rfl, hb⟩
      have hle7 : wr.heap.size ≤ w7.heap.size := Nat.le_trans hle6 hb.size
      have HE7 := Lib.hid (HE6.out.go hb)
      have HD7 := Lib.hid (HD6.out.go hb)
      have HA7 := Lib.hid (HA6.out.go hb)
      have HM7 := Lib.hid (HM6.out.go hb)
      have HK7 := Lib.hid (HK6.out.trans (KS.ofBelow hb) HC6.out)
      clear hb HE6 HD6 HA6 HM6 HK6 e0 e1
      have e0 := HE7.out.cell0
      have e1 := HE7.out.cell1
      go_wp2_with fail
      refine (loadM_any c6 q g2 U b' z1 z2 k wd w7 HM7.out HI6.out (by omega)).mono ?_
      generalize ldR U b' z1 z2 k wd = lv
      generalize numC U z1 z2 k wd = lc
      rintro e w8 ⟨rfl, hb⟩
      have hle8 : wr.heap.size ≤ w8.heap.size := Nat.le_trans hle7 hb.size
      have HE8 := Lib.hid (HE7.out.go hb)
      have HD8 := Lib.hid (HD7.out.go hb)
      have HA8 := Lib.hid (HA7.out.go hb)
      have HM8 := Lib.hid (HM7.out.go hb)
      have HK8 := Lib.hid (HK7.out.trans (KS.ofBelow hb) HC6.out)
      clear hb HE7 HD7 HA7 HM7 HK7 e0 e1
      have e0 := HE8.out.cell0
      have e1 := HE8.out.cell1
      have HTC : Hid (c6 tb = 0) := Lib.hid ((HC6.out tb HBB5.out.lt).trans hcb4)
      have hnb := HNB.out
      all_goals
        go_wp2_with fail
        refine (read_any c6 a p g F A b' z1 z2 k _ w8 HA8.out HG6.out (by omega) (by omega)).mono ?_
        rw [rdL_p HPM.out, bytC_p HPM.out]
        rintro e w9 ⟨v1, rfl, ho, hb⟩
        obtain ⟨A1, m1, d1, rfl, hr1⟩ := ho.shape
        have HR9 := Lib.hid hr1
        have HG1 : Hid (∀ b o, A1 = some ⟨b, o, none⟩ → c6 b = 9) := Lib.hid (fun b o e => HN6.out b (Nat.le_trans hle8 (ho.ge b o e)))
        have hle9 : wr.heap.size ≤ w9.heap.size := Nat.le_trans hle8 hb.size
        have HE9 := Lib.hid (HE8.out.go hb)
        have HD9 := Lib.hid (HD8.out.go hb)
        have HA9 := Lib.hid (HA8.out.go hb)
        have HM9 := Lib.hid (HM8.out.go hb)
        have HK9 := Lib.hid (HK8.out.trans (KS.ofBelow hb) HC6.out)
        clear ho hr1 hb HE8 HD8 HA8 HM8 HK8 e0 e1
        have e0 := HE9.out.cell0
        have e1 := HE9.out.cell1
        go_wp2_with fail
        refine (readR_any c6 q g2 U b' z1 z2 k _ w9 HM9.out HI6.out (by omega) (by omega)).mono ?_
        generalize rdL U b' z1 z2 k _ = l at *
        generalize bytC U z1 z2 k _ = rc at *
        rintro e w10 ⟨v2, rfl, ho, hb⟩
        obtain ⟨A2, m2, d2, rfl, hr2⟩ := ho.shape
        have HG2 : Hid (∀ b o, A2 = some ⟨b, o, none⟩ → c6 b = 9) := Lib.hid (fun b o e => HN6.out b (Nat.le_trans hle9 (ho.ge b o e)))
        obtain ⟨T, hT⟩ : ∃ T, strOfNums l = T := ⟨_, rfl⟩
        have HT := Lib.hid hT
        have HR10 := Lib.hid (HR9.out.go hb)
        have HQ10 := Lib.hid hr2
        have HE10 := Lib.hid (HE9.out.go hb)
        have HD10 := Lib.hid (HD9.out.go hb)
        have HP10 := Lib.hid (Pos.here (HA9.out.go hb) (HM9.out.go hb))
        have HK10 := Lib.hid (HK9.out.trans (KS.ofBelow hb) HC6.out)
        have hsz10 := (HA9.out.go hb).small
        clear ho hr2 hb hT HE9 HD9 HA9 HM9 HK9 HR9 e0 e1
        have e0 := HE10.out.cell0
        have e1 := HE10.out.cell1
        go_wp2_with fail
        have HSS : Hid (∀ x1 x2 w', Pos w10 c6 a p g q g2 F A x1 U x2 w' → w'.cell? ⟨wr.heap.size, 0, none⟩ = some (.int .i64 z1) ∧ w'.cell? ⟨wr.heap.size, 1, none⟩ = some (.int .i64 z2) ∧ w'.cell? ⟨tb, 0, none⟩ = some (.int .i64 dx) ∧ w'.cell? ⟨tb, 1, none⟩ = some (.int .i64 dy) ∧
            (convert 40 9 (.slice A1 m1 d1)).run Try.prog w' = .ok (.string T) w' ∧ (convert 40 9 (.slice A2 m2 d2)).run Try.prog w' = .ok (.string T) w') := Lib.hid (fun x1 x2 w' h => by
          have k1 := h.box HE10.out (by rw [HTE.out]; exact sa_9)
          have k2 := h.box HD10.out (by rw [HTC.out]; exact sa_0)
          exact ⟨k1.cell0, k1.cell1, k2.cell0, k2.cell1, (HR10.out.ks9 h.ks HG1.out).text HT.out, (HQ10.out.ks9 h.ks HG2.out).text HT.out⟩)
        have HPD : Hid (Pos w10 c6 a p g q g2 F A b' U b' w10.drew) := Lib.hid (HP10.out.go (below_drewN (Below.refl _ _) 1))
        have H1 : Hid (∀ x2 w', Pos w10 c6 a p g q g2 F A b' U x2 w' → Calls Try.prog 18 #[.pointer (some ⟨a, 0, none⟩), .agg #[.int .i64 z1, .int .i64 z2], .int .i64 k, .int .i64 wd, .int .u64 v] w' fun e w'' => e = .returned (.int .i64 (stC U z1 z2 k wd.toNat v)) ∧ Pos w10 c6 a p g q g2 F A (stB U b' z1 z2 k wd.toNat v) U x2 w'') := Lib.hid (fun x2 w' h => by
          have hh := h.run_prog (fun c' h' => storeA_int c' a p g F A b' z1 z2 k v wd w' h' HG6.out (by omega))
          rw [stC_p HPM.out, stB_p HPM.out] at hh
          exact hh)
        have hl1 : (stB U b' z1 z2 k wd.toNat v).length = b'.length := stB_len
        have H2 : Hid (∀ x1 w', Pos w10 c6 a p g q g2 F A x1 U b' w' → Calls Try.prog 19 #[.pointer (some ⟨q, 0, none⟩), .agg #[.int .i64 z1, .int .i64 z2], .int .i64 k, .int .i64 wd, .int .u64 v] w' fun e w'' => e = .returned (.int .i64 (stC U z1 z2 k wd.toNat v)) ∧ Pos w10 c6 a p g q g2 F A x1 U (stB U b' z1 z2 k wd.toNat v) w'') := Lib.hid (fun x1 w' h =>
          h.run_model (fun c' h' => storeM_int c' q g2 U b' z1 z2 k v wd w' h' HI6.out (by omega) HV.out.1 HV.out.2))
        have HZ1 : Hid (ZF F (stB U b' z1 z2 k wd.toNat v)) := Lib.hid (by rw [← stB_p HPM.out]; exact zf_stB HZ.out HG6.out)
        generalize stB U b' z1 z2 k wd.toNat v = y1 at *
        generalize stC U z1 z2 k wd.toNat v = r1 at *
        have HG7 : Hid (Gd y1.length F A) := Lib.hid (by rw [hl1]; exact HG6.out)
        have HI7 : Hid (Ins y1.length U) := Lib.hid (by rw [hl1]; exact HI6.out)
        have H3 : Hid (∀ x2 w', Pos w10 c6 a p g q g2 F A y1 U x2 w' → Calls Try.prog 20 #[.pointer (some ⟨a, 0, none⟩), .agg #[.int .i64 z1, .int .i64 z2], .int .i64 k, .agg #[.int .i64 dx, .int .i64 dy], .int .i64 wd, .int .i64 n] w' fun e w'' => e = .returned (.int .i64 (cpC U z1 z2 k dx dy wd n)) ∧ Pos w10 c6 a p g q g2 F A (cpB U y1 z1 z2 k dx dy wd n) U x2 w'') := Lib.hid (fun x2 w' h => by
          have hh := h.run_prog (fun c' h' => copy_any c' a p g F A y1 z1 z2 k dx dy wd n w' h' HG7.out (by omega) hnb)
          rw [cpC_p HPM.out, cpB_p HPM.out] at hh
          exact hh)
        have hl2 : (cpB U y1 z1 z2 k dx dy wd n).length = y1.length := cpB_len
        have H4 : Hid (∀ x1 w', Pos w10 c6 a p g q g2 F A x1 U y1 w' → Calls Try.prog 21 #[.pointer (some ⟨q, 0, none⟩), .agg #[.int .i64 z1, .int .i64 z2], .int .i64 k, .agg #[.int .i64 dx, .int .i64 dy], .int .i64 wd, .int .i64 n] w' fun e w'' => e = .returned (.int .i64 (cpC U z1 z2 k dx dy wd n)) ∧ Pos w10 c6 a p g q g2 F A x1 U (cpB U y1 z1 z2 k dx dy wd n) w'') := Lib.hid (fun x1 w' h =>
          h.run_model (fun c' h' => copyR_any c' q g2 U y1 z1 z2 k dx dy wd n w' h' HI7.out (by omega) hnb))
        have HZ2 : Hid (ZF F (cpB U y1 z1 z2 k dx dy wd n)) := Lib.hid (by rw [← cpB_p HPM.out]; exact zf_cpB HZ1.out HG7.out)
        generalize cpB U y1 z1 z2 k dx dy wd n = y2 at *
        generalize cpC U z1 z2 k dx dy wd n = r2 at *
        have HG8 : Hid (Gd y2.length F A) := Lib.hid (by rw [hl2]; exact HG7.out)
        have HI8 : Hid (Ins y2.length U) := Lib.hid (by rw [hl2]; exact HI7.out)
        have H5 : Hid (∀ x2 w', Pos w10 c6 a p g q g2 F A y2 U x2 w' → Calls Try.prog 20 #[.pointer (some ⟨a, 0, none⟩), .agg #[.int .i64 dx, .int .i64 dy], .int .i64 k, .agg #[.int .i64 z1, .int .i64 z2], .int .i64 wd, .int .i64 n] w' fun e w'' => e = .returned (.int .i64 (cpC U dx dy k z1 z2 wd n)) ∧ Pos w10 c6 a p g q g2 F A (cpB U y2 dx dy k z1 z2 wd n) U x2 w'') := Lib.hid (fun x2 w' h => by
          have hh := h.run_prog (fun c' h' => copy_any c' a p g F A y2 dx dy k z1 z2 wd n w' h' HG8.out (by omega) hnb)
          rw [cpC_p HPM.out, cpB_p HPM.out] at hh
          exact hh)
        have hl3 : (cpB U y2 dx dy k z1 z2 wd n).length = y2.length := cpB_len
        have H6 : Hid (∀ x1 w', Pos w10 c6 a p g q g2 F A x1 U y2 w' → Calls Try.prog 21 #[.pointer (some ⟨q, 0, none⟩), .agg #[.int .i64 dx, .int .i64 dy], .int .i64 k, .agg #[.int .i64 z1, .int .i64 z2], .int .i64 wd, .int .i64 n] w' fun e w'' => e = .returned (.int .i64 (cpC U dx dy k z1 z2 wd n)) ∧ Pos w10 c6 a p g q g2 F A x1 U (cpB U y2 dx dy k z1 z2 wd n) w'') := Lib.hid (fun x1 w' h =>
          h.run_model (fun c' h' => copyR_any c' q g2 U y2 dx dy k z1 z2 wd n w' h' HI8.out (by omega) hnb))
        have HZ3 : Hid (ZF F (cpB U y2 dx dy k z1 z2 wd n)) := Lib.hid (by rw [← cpB_p HPM.out]; exact zf_cpB HZ2.out HG8.out)
        generalize cpB U y2 dx dy k z1 z2 wd n = y3 at *
        generalize cpC U dx dy k z1 z2 wd n = r3 at *
        have HG9 : Hid (Gd y3.length F A) := Lib.hid (by rw [hl3]; exact HG8.out)
        have HI9 : Hid (Ins y3.length U) := Lib.hid (by rw [hl3]; exact HI8.out)
        have H7 : Hid (∀ L kk x2 w', Mid L w10 c6 a p g q g2 F A y3 U x2 w' → kk ∈ L → Calls Try.prog 22 #[.pointer (some ⟨a, 0, none⟩), .agg #[.int .i64 z1, .int .i64 z2], .int .i64 k, .slice (some ⟨kk, 0, none⟩) 2 2] w' fun e w'' => e = .returned (.int .i64 (bytC U z1 z2 k 2)) ∧ Mid L w10 c6 a p g q g2 F A (wrB U y3 z1 z2 k [1, 2]) U x2 w'') := Lib.hid (fun L kk x2 w' h hk => by
          have hh := h.prog hk HG9.out (by omega) z1 z2 k
          rw [bytC_p HPM.out, wrB_p HPM.out] at hh
          exact hh)
        have hl4 : (wrB U y3 z1 z2 k [1, 2]).length = y3.length := wrB_len
        have H8 : Hid (∀ L kk x1 w', Mid L w10 c6 a p g q g2 F A x1 U y3 w' → kk ∈ L → Calls Try.prog 23 #[.pointer (some ⟨q, 0, none⟩), .agg #[.int .i64 z1, .int .i64 z2], .int .i64 k, .slice (some ⟨kk, 0, none⟩) 2 2] w' fun e w'' => e = .returned (.int .i64 (bytC U z1 z2 k 2)) ∧ Mid L w10 c6 a p g q g2 F A x1 U (wrB U y3 z1 z2 k [1, 2]) w'') := Lib.hid (fun L kk x1 w' h hk =>
          h.model hk HI9.out (by omega) z1 z2 k)
        have HZ4 : Hid (ZF F (wrB U y3 z1 z2 k [1, 2])) := Lib.hid (by rw [← wrB_p HPM.out]; exact zf_wrB HZ3.out HG9.out)
        generalize wrB U y3 z1 z2 k [1, 2] = y4 at *
        generalize bytC U z1 z2 k 2 = r4 at *
        have HL4 : Hid (y4.length = bs.length) := Lib.hid (by rw [hl4, hl3, hl2, hl1]; exact HL.out)
        clear hl1 hl2 hl3 hl4 HG6 HG7 HG8 HG9 HI6 HI7 HI8 HI9 HZ1 HZ2 HZ3 HR10 HQ10 HE10 HD10 e0 e1 HT
        simp only [List.append_eq, List.cons_append, List.nil_append]
        obtain ⟨C, hC⟩ : ∃ C : Nat → World → Prop, C = fun s w' => Pos w10 c6 a p g q g2 F A ([b', y1, y1, y1, y2, y2, y2, y3, y3].getD s y3) U ([b', b', y1, y1, y1, y2, y2, y2, y3].getD s y3) w' := ⟨_, rfl⟩
        have hall : ∀ m : InSome C, (fun w' => w'.cell? ⟨wr.heap.size, 0, none⟩ = some (.int .i64 z1) ∧ w'.cell? ⟨wr.heap.size, 1, none⟩ = some (.int .i64 z2) ∧ w'.cell? ⟨tb, 0, none⟩ = some (.int .i64 dx) ∧ w'.cell? ⟨tb, 1, none⟩ = some (.int .i64 dy) ∧ (convert 40 9 (.slice A1 m1 d1)).run Try.prog w' = .ok (.string T) w' ∧ (convert 40 9 (.slice A2 m2 d2)).run Try.prog w' = .ok (.string T) w') m.val := fun m => by
          obtain ⟨w', s, hs⟩ := m
          rw [hC] at hs
          exact HSS.out _ _ _ hs
        have q0 := fun m => (hall m).1
        have q1 := fun m => (hall m).2.1
        have q2 := fun m => (hall m).2.2.1
        have q3 := fun m => (hall m).2.2.2.1
        have q4 := fun m => (hall m).2.2.2.2.1
        have q5 := fun m => (hall m).2.2.2.2.2
        have HC0 : Hid (C 0 (w10.drewN 1)) := Lib.hid (by rw [hC]; exact HP10.out.go (below_drewN (Below.refl _ _) 1))
        have hne : Nonempty (InSome C) := ⟨⟨_, 0, HC0.out⟩⟩
        have G1 : Hid (∀ w', C 0 w' → Calls Try.prog 18 #[.pointer (some ⟨a, 0, none⟩), .agg #[.int .i64 z1, .int .i64 z2], .int .i64 k, .int .i64 wd, .int .u64 v] w' fun e w'' => e = .returned (.int .i64 r1) ∧ C 1 w'') := Lib.hid (by
          rw [hC]
          exact fun w' h => H1.out _ _ h)
        have G2 : Hid (∀ w', C 1 w' → Calls Try.prog 19 #[.pointer (some ⟨q, 0, none⟩), .agg #[.int .i64 z1, .int .i64 z2], .int .i64 k, .int .i64 wd, .int .u64 v] w' fun e w'' => e = .returned (.int .i64 r1) ∧ C 2 w'') := Lib.hid (by
          rw [hC]
          exact fun w' h => H2.out _ _ h)
        have G3 : Hid (∀ w', C 3 w' → Calls Try.prog 20 #[.pointer (some ⟨a, 0, none⟩), .agg #[.int .i64 z1, .int .i64 z2], .int .i64 k, .agg #[.int .i64 dx, .int .i64 dy], .int .i64 wd, .int .i64 n] w' fun e w'' => e = .returned (.int .i64 r2) ∧ C 4 w'') := Lib.hid (by
          rw [hC]
          exact fun w' h => H3.out _ _ h)
        have G4 : Hid (∀ w', C 4 w' → Calls Try.prog 21 #[.pointer (some ⟨q, 0, none⟩), .agg #[.int .i64 z1, .int .i64 z2], .int .i64 k, .agg #[.int .i64 dx, .int .i64 dy], .int .i64 wd, .int .i64 n] w' fun e w'' => e = .returned (.int .i64 r2) ∧ C 5 w'') := Lib.hid (by
          rw [hC]
          exact fun w' h => H4.out _ _ h)
        have G5 : Hid (∀ w', C 6 w' → Calls Try.prog 20 #[.pointer (some ⟨a, 0, none⟩), .agg #[.int .i64 dx, .int .i64 dy], .int .i64 k, .agg #[.int .i64 z1, .int .i64 z2], .int .i64 wd, .int .i64 n] w' fun e w'' => e = .returned (.int .i64 r3) ∧ C 7 w'') := Lib.hid (by
          rw [hC]
          exact fun w' h => H5.out _ _ h)
        have G6 : Hid (∀ w', C 7 w' → Calls Try.prog 21 #[.pointer (some ⟨q, 0, none⟩), .agg #[.int .i64 dx, .int .i64 dy], .int .i64 k, .agg #[.int .i64 z1, .int .i64 z2], .int .i64 wd, .int .i64 n] w' fun e w'' => e = .returned (.int .i64 r3) ∧ C 8 w'') := Lib.hid (by
          rw [hC]
          exact fun w' h => H6.out _ _ h)
        have HCE : Hid (∀ w', C 8 w' → Pos w10 c6 a p g q g2 F A y3 U y3 w') := Lib.hid (by rw [hC]; exact fun w' h => h)
        have HI2 : Hid (∀ w', C 2 w' → C 3 w') := Lib.hid (by rw [hC]; exact fun w' h => h)
        have HI5 : Hid (∀ w', C 5 w' → C 6 w') := Lib.hid (by rw [hC]; exact fun w' h => h)
        clear hC hall
        refine wp_region_noPanic ?_
        refine wp_region_split 70 [26, 32, 35, 42, 49, 52, 59, 66] C (by kernel_rfl) (by kernel_rfl) HC0.out ?_
        simp only [List.take_succ_cons, List.take_zero]
        refine lexT_seg2 26 (by kernel_rfl) ?_
        simp only [List.take_succ_cons, List.take_zero, List.drop_succ_cons, List.drop_zero]
        repeat (go_big_quiet_step (fail))
        refine wpQuiet_nil ?_
        refine lexT2_do G1.out Try.func18 (by kernel_rfl) rfl (by kernel_rfl) (by kernel_rfl) (by kernel_rfl) ?_
        simp only [Act.put, List.setIfInBounds_toArray, List.set_cons_succ, List.set_cons_zero]
        refine lexT_seg2 5 (by kernel_rfl) ?_
        simp only [List.take_succ_cons, List.take_zero, List.drop_succ_cons, List.drop_zero]
        repeat (go_big_quiet_step (fail))
        refine wpQuiet_nil ?_
        refine lexT2_do G2.out Try.func19 (by kernel_rfl) rfl (by kernel_rfl) (by kernel_rfl) (by kernel_rfl) ?_
        simp only [Act.put, List.setIfInBounds_toArray, List.set_cons_succ, List.set_cons_zero]
        refine lexT_seg2 2 (by kernel_rfl) ?_
        simp only [List.take_succ_cons, List.take_zero, List.drop_succ_cons, List.drop_zero]
        repeat (go_big_quiet_step (fail))
        refine wpQuiet_nil ?_
        refine lexT2_make (.bool false) (by kernel_rfl) (by kernel_rfl) (fun x hx => ⟨x, run_move_is (.tmp 121) rfl rfl x, HI2.out x hx⟩) ?_
        simp only [Act.put, List.setIfInBounds_toArray, List.set_cons_succ, List.set_cons_zero]
        refine lexT_seg2 6 (by kernel_rfl) ?_
        simp only [List.take_succ_cons, List.take_zero, List.drop_succ_cons, List.drop_zero]
        repeat (go_big_quiet_step (fail))
        refine wpQuiet_nil ?_
        refine lexT2_do G3.out Try.func20 (by kernel_rfl) rfl (by kernel_rfl) (by kernel_rfl) (by kernel_rfl) ?_
        simp only [Act.put, List.setIfInBounds_toArray, List.set_cons_succ, List.set_cons_zero]
        refine lexT_seg2 6 (by kernel_rfl) ?_
        simp only [List.take_succ_cons, List.take_zero, List.drop_succ_cons, List.drop_zero]
        repeat (go_big_quiet_step (fail))
        refine wpQuiet_nil ?_
        refine lexT2_do G4.out Try.func21 (by kernel_rfl) rfl (by kernel_rfl) (by kernel_rfl) (by kernel_rfl) ?_
        simp only [Act.put, List.setIfInBounds_toArray, List.set_cons_succ, List.set_cons_zero]
        refine lexT_seg2 2 (by kernel_rfl) ?_
        simp only [List.take_succ_cons, List.take_zero, List.drop_succ_cons, List.drop_zero]
        repeat (go_big_quiet_step (fail))
        refine wpQuiet_nil ?_
        refine lexT2_make (.bool false) (by kernel_rfl) (by kernel_rfl) (fun x hx => ⟨x, run_move_is (.tmp 138) rfl rfl x, HI5.out x hx⟩) ?_
        simp only [Act.put, List.setIfInBounds_toArray, List.set_cons_succ, List.set_cons_zero]
        refine lexT_seg2 6 (by kernel_rfl) ?_
        simp only [List.take_succ_cons, List.take_zero, List.drop_succ_cons, List.drop_zero]
        repeat (go_big_quiet_step (fail))
        refine wpQuiet_nil ?_
        refine lexT2_do G5.out Try.func20 (by kernel_rfl) rfl (by kernel_rfl) (by kernel_rfl) (by kernel_rfl) ?_
        simp only [Act.put, List.setIfInBounds_toArray, List.set_cons_succ, List.set_cons_zero]
        refine lexT_seg2 6 (by kernel_rfl) ?_
        simp only [List.take_succ_cons, List.take_zero, List.drop_succ_cons, List.drop_zero]
        repeat (go_big_quiet_step (fail))
        refine wpQuiet_nil ?_
        refine lexT2_do G6.out Try.func21 (by kernel_rfl) rfl (by kernel_rfl) (by kernel_rfl) (by kernel_rfl) ?_
        simp only [Act.put, List.setIfInBounds_toArray, List.set_cons_succ, List.set_cons_zero]
        refine lexT_seg2 3 (by kernel_rfl) ?_
        simp only [List.take_succ_cons, List.take_zero, List.drop_succ_cons, List.drop_zero]
        repeat (go_big_quiet_step (fail))
        refine wpQuiet_nil ?_
        refine lexT2_nil ?_
        intro w16 hw16
        have HP16 := Lib.hid (Mid.ofPos (HCE.out w16 hw16))
        have hHeld := HSS.out _ _ _ (HCE.out w16 hw16)
        clear hw16 HCE HI2 HI5 G1 G2 G3 G4 G5 G6 H1 H2 H3 H4 H5 H6 q0 q1 q2 q3 q4 q5 HC0 hne HPD
        clear C
        refine wpAny_of_held (S := fun w' => w'.cell? ⟨wr.heap.size, 0, none⟩ = some (.int .i64 z1) ∧ w'.cell? ⟨wr.heap.size, 1, none⟩ = some (.int .i64 z2) ∧ w'.cell? ⟨tb, 0, none⟩ = some (.int .i64 dx) ∧ w'.cell? ⟨tb, 1, none⟩ = some (.int .i64 dy) ∧ (convert 40 9 (.slice A1 m1 d1)).run Try.prog w' = .ok (.string T) w' ∧ (convert 40 9 (.slice A2 m2 d2)).run Try.prog w' = .ok (.string T) w') _ _ _ _ ?_
        refine held_take (i := 70) (d := 157) (v := _) rfl rfl (by kernel_rfl) (by kernel_rfl) (by kernel_rfl) (fun _ _ _ h => h) (by rfl) (fun w _ => BigFrame.run_move _ rfl w) hHeld ?_
        simp only [Act.put, List.setIfInBounds_toArray, List.set_cons_zero, List.set_cons_succ]
        refine held_take (i := 71) (d := 158) (v := .agg #[.int .i64 z1, .int .i64 z2]) rfl rfl (by kernel_rfl) (by kernel_rfl) (by kernel_rfl) (fun _ _ _ h => h) (by rfl) (fun w hS => run_load_two _ _ (by rfl) (by rfl) (by rfl) (by rfl) w hS.1 hS.2.1) hHeld ?_
        simp only [Act.put, List.setIfInBounds_toArray, List.set_cons_zero, List.set_cons_succ]
        refine held_take (i := 72) (d := 159) (v := _) rfl rfl (by kernel_rfl) (by kernel_rfl) (by kernel_rfl) (fun _ _ _ h => h) (by rfl) (fun w _ => BigFrame.run_move _ rfl w) hHeld ?_
        simp only [Act.put, List.setIfInBounds_toArray, List.set_cons_zero, List.set_cons_succ]
        refine held_take (i := 75) (d := 162) (v := _) rfl rfl (by kernel_rfl) (by kernel_rfl) (by kernel_rfl) (fun _ _ _ h => h) (by rfl) (fun w _ => BigFrame.run_move _ rfl w) hHeld ?_
        simp only [Act.put, List.setIfInBounds_toArray, List.set_cons_zero, List.set_cons_succ]
        refine held_take (i := 76) (d := 163) (v := .agg #[.int .i64 z1, .int .i64 z2]) rfl rfl (by kernel_rfl) (by kernel_rfl) (by kernel_rfl) (fun _ _ _ h => h) (by rfl) (fun w hS => run_load_two _ _ (by rfl) (by rfl) (by rfl) (by rfl) w hS.1 hS.2.1) hHeld ?_
        simp only [Act.put, List.setIfInBounds_toArray, List.set_cons_zero, List.set_cons_succ]
        refine held_take (i := 77) (d := 164) (v := _) rfl rfl (by kernel_rfl) (by kernel_rfl) (by kernel_rfl) (fun _ _ _ h => h) (by rfl) (fun w _ => BigFrame.run_move _ rfl w) hHeld ?_
        simp only [Act.put, List.setIfInBounds_toArray, List.set_cons_zero, List.set_cons_succ]
        refine held_two (i := 73) (j := 78) (by kernel_rfl) (held_make (d := 160) rfl rfl (by rfl) (run_two rfl rfl (fun _ => rfl) _) ⟨HSS.out _ _ _ HP16.out.two.pos, ?_⟩) (held_make (d := 165) rfl rfl (by rfl) (run_two rfl rfl (fun _ => rfl) _) ⟨HSS.out _ _ _ HP16.out.two.pos, ?_⟩)
        · skip
          clear hHeld
          have hHeld := HSS.out _ _ _ HP16.out.two.pos
          simp only [Act.put, List.setIfInBounds_toArray, List.set_cons_zero, List.set_cons_succ]
          refine held_two (i := 74) (j := 78) (by kernel_rfl) (held_call (d := 161) (v := .int .i64 r4) rfl rfl (by rfl) rfl (by kernel_rfl) Try.func22 (by kernel_rfl) (H7.out _ w16.heap.size _ _ HP16.out.two (by simp)) (fun w17 hp => ⟨HSS.out _ _ _ hp.pos, ?_⟩)) (held_make (d := 165) rfl rfl (by rfl) (run_two rfl rfl (fun _ => rfl) _) ⟨HSS.out _ _ _ HP16.out.two.two.pos, ?_⟩)
          · skip
            clear hHeld
            have hHeld := HSS.out _ _ _ hp.pos
            have HP17 := Lib.hid (hp)
            clear hp HP16
            simp only [Act.put, List.setIfInBounds_toArray, List.set_cons_zero, List.set_cons_succ]
            refine held_one (i := 78) (by kernel_rfl) (held_make (d := 165) rfl rfl (by rfl) (run_two rfl rfl (fun _ => rfl) _) ⟨HSS.out _ _ _ HP17.out.two.pos, ?_⟩)
            clear hHeld
            have hHeld := HSS.out _ _ _ HP17.out.two.pos
            simp only [Act.put, List.setIfInBounds_toArray, List.set_cons_zero, List.set_cons_succ]
            refine held_one (i := 79) (by kernel_rfl) (held_call (d := 166) (v := .int .i64 r4) rfl rfl (by rfl) rfl (by kernel_rfl) Try.func23 (by kernel_rfl) (H8.out _ w17.heap.size _ _ HP17.out.two (by simp)) (fun w18 hp => ⟨HSS.out _ _ _ hp.pos, ?_⟩))
            clear hHeld
            have hHeld := HSS.out _ _ _ hp.pos
            have HP18 := Lib.hid (hp)
            clear hp HP17
            simp only [Act.put, List.setIfInBounds_toArray, List.set_cons_zero, List.set_cons_succ]
            refine held_take (i := 80) (d := 167) (v := .bool false) rfl rfl (by kernel_rfl) (by kernel_rfl) (by kernel_rfl) (fun _ _ _ h => h) (by rfl) (by intro w _; go_simp) hHeld ?_
            simp only [Act.put, List.setIfInBounds_toArray, List.set_cons_zero, List.set_cons_succ]
            refine held_take (i := 81) (d := 168) (v := .bool false) rfl rfl (by kernel_rfl) (by kernel_rfl) (by kernel_rfl) (fun _ _ _ h => h) (by rfl) (fun w _ => run_pick_no _ _ _ (by rfl) (by rfl) (by rfl) w) hHeld ?_
            simp only [Act.put, List.setIfInBounds_toArray, List.set_cons_zero, List.set_cons_succ]
            refine wpAnyH_done (by kernel_rfl) ?_ _
            refine NoPanic.normal ?_
            have HPE := Lib.hid HP18.out.pos
            clear HP18 hHeld HSS H7 H8
            generalize w16.heap.size = adr at *
            go_wp2
            go_roundw
            case rel => exact ⟨i + 1, by omega, by go_num, Lib.hid ⟨y4, HL4.out, HZ4.out, Pos.from_ HK10.out HC6.out HPE.out⟩⟩
            case measure => simp [intOf]; omega
          · skip
            clear hHeld
            have hHeld := HSS.out _ _ _ HP16.out.two.two.pos
            simp only [Act.put, List.setIfInBounds_toArray, List.set_cons_zero, List.set_cons_succ]
            refine held_one (i := 74) (by kernel_rfl) (held_call (d := 161) (v := .int .i64 r4) rfl rfl (by rfl) rfl (by kernel_rfl) Try.func22 (by kernel_rfl) (H7.out _ w16.heap.size _ _ HP16.out.two.two (by simp)) (fun w17 hp => ⟨HSS.out _ _ _ hp.pos, ?_⟩))
            clear hHeld
            have hHeld := HSS.out _ _ _ hp.pos
            have HP17 := Lib.hid (hp)
            clear hp HP16
            simp only [Act.put, List.setIfInBounds_toArray, List.set_cons_zero, List.set_cons_succ]
            refine held_one (i := 79) (by kernel_rfl) (held_call (d := 166) (v := .int .i64 r4) rfl rfl (by rfl) rfl (by kernel_rfl) Try.func23 (by kernel_rfl) (H8.out _ (w16.alloc (.cells #[.int .u8 1, .int .u8 2] 5)).heap.size _ _ HP17.out (by simp)) (fun w18 hp => ⟨HSS.out _ _ _ hp.pos, ?_⟩))
            clear hHeld
            have hHeld := HSS.out _ _ _ hp.pos
            have HP18 := Lib.hid (hp)
            clear hp HP17
            simp only [Act.put, List.setIfInBounds_toArray, List.set_cons_zero, List.set_cons_succ]
            refine held_take (i := 80) (d := 167) (v := .bool false) rfl rfl (by kernel_rfl) (by kernel_rfl) (by kernel_rfl) (fun _ _ _ h => h) (by rfl) (by intro w _; go_simp) hHeld ?_
            simp only [Act.put, List.setIfInBounds_toArray, List.set_cons_zero, List.set_cons_succ]
            refine held_take (i := 81) (d := 168) (v := .bool false) rfl rfl (by kernel_rfl) (by kernel_rfl) (by kernel_rfl) (fun _ _ _ h => h) (by rfl) (fun w _ => run_pick_no _ _ _ (by rfl) (by rfl) (by rfl) w) hHeld ?_
            simp only [Act.put, List.setIfInBounds_toArray, List.set_cons_zero, List.set_cons_succ]
            refine wpAnyH_done (by kernel_rfl) ?_ _
            refine NoPanic.normal ?_
            have HPE := Lib.hid HP18.out.pos
            clear HP18 hHeld HSS H7 H8
            generalize w16.heap.size = adr at *
            go_wp2
            go_roundw
            case rel => exact ⟨i + 1, by omega, by go_num, Lib.hid ⟨y4, HL4.out, HZ4.out, Pos.from_ HK10.out HC6.out HPE.out⟩⟩
            case measure => simp [intOf]; omega
        · skip
          clear hHeld
          have hHeld := HSS.out _ _ _ HP16.out.two.pos
          simp only [Act.put, List.setIfInBounds_toArray, List.set_cons_zero, List.set_cons_succ]
          refine held_one (i := 73) (by kernel_rfl) (held_make (d := 160) rfl rfl (by rfl) (run_two rfl rfl (fun _ => rfl) _) ⟨HSS.out _ _ _ HP16.out.two.two.pos, ?_⟩)
          clear hHeld
          have hHeld := HSS.out _ _ _ HP16.out.two.two.pos
          simp only [Act.put, List.setIfInBounds_toArray, List.set_cons_zero, List.set_cons_succ]
          refine held_one (i := 74) (by kernel_rfl) (held_call (d := 161) (v := .int .i64 r4) rfl rfl (by rfl) rfl (by kernel_rfl) Try.func22 (by kernel_rfl) (H7.out _ (w16.alloc (.cells #[.int .u8 1, .int .u8 2] 5)).heap.size _ _ HP16.out.two.two (by simp)) (fun w17 hp => ⟨HSS.out _ _ _ hp.pos, ?_⟩))
          clear hHeld
          have hHeld := HSS.out _ _ _ hp.pos
          have HP17 := Lib.hid (hp)
          clear hp HP16
          simp only [Act.put, List.setIfInBounds_toArray, List.set_cons_zero, List.set_cons_succ]
          refine held_one (i := 79) (by kernel_rfl) (held_call (d := 166) (v := .int .i64 r4) rfl rfl (by rfl) rfl (by kernel_rfl) Try.func23 (by kernel_rfl) (H8.out _ w16.heap.size _ _ HP17.out (by simp)) (fun w18 hp => ⟨HSS.out _ _ _ hp.pos, ?_⟩))
          clear hHeld
          have hHeld := HSS.out _ _ _ hp.pos
          have HP18 := Lib.hid (hp)
          clear hp HP17
          simp only [Act.put, List.setIfInBounds_toArray, List.set_cons_zero, List.set_cons_succ]
          refine held_take (i := 80) (d := 167) (v := .bool false) rfl rfl (by kernel_rfl) (by kernel_rfl) (by kernel_rfl) (fun _ _ _ h => h) (by rfl) (by intro w _; go_simp) hHeld ?_
          simp only [Act.put, List.setIfInBounds_toArray, List.set_cons_zero, List.set_cons_succ]
          refine held_take (i := 81) (d := 168) (v := .bool false) rfl rfl (by kernel_rfl) (by kernel_rfl) (by kernel_rfl) (fun _ _ _ h => h) (by rfl) (fun w _ => run_pick_no _ _ _ (by rfl) (by rfl) (by rfl) w) hHeld ?_
          simp only [Act.put, List.setIfInBounds_toArray, List.set_cons_zero, List.set_cons_succ]
          refine wpAnyH_done (by kernel_rfl) ?_ _
          refine NoPanic.normal ?_
          have HPE := Lib.hid HP18.out.pos
          clear HP18 hHeld HSS H7 H8
          generalize w16.heap.size = adr at *
          go_wp2
          go_roundw
          case rel => exact ⟨i + 1, by omega, by go_num, Lib.hid ⟨y4, HL4.out, HZ4.out, Pos.from_ HK10.out HC6.out HPE.out⟩⟩
          case measure => simp [intOf]; omega
    · obtain rfl : i = 2 := by omega
      obtain ⟨c6, ha6, hm6, hk6, hc6, hn6⟩ := HP.out.ex
      have HSF : Hid (Sr wr c6 a p g q g2 F A U b') := Lib.hid ⟨ha6, hm6, by rw [HL.out]; exact HS5.out.gd, HPM.out, HZ.out⟩
      have HBF : Hid (Below ta w wr) := Lib.hid (Below.trans HB5.out (hk6.below (fun z hz => by rw [HN4.out.1 z hz]; exact sa_0) (by have := HBA5.out.lt; omega)))
      clear hbk ha6 hm6 hk6 hc6 hn6
      go_wp2_with fail
      refine (awake_any wr).mono ?_
      rintro e w6 ⟨rfl, hb⟩
      have HSG := Lib.hid (HSF.out.go hb)
      have HBG := Lib.hid (Below.then HBF.out hb (by have := HTA.out; have := HBF.out.size; omega))
      clear hb HSF HBF
      go_wp2_with fail
      refine (alike_any w6 c6 a p g q g2 F A U b' HSG.out (by omega)).mono ?_
      rintro e w7 ⟨rfl, hb⟩
      have HBE := Lib.hid (Below.then HBG.out hb (by have := HTA.out; have := HBG.out.size; omega))
      clear hb HSG HBG
      go_wp2
      go_ret
      exact ⟨rfl, by rw [HTA.out]; exact HBE.out⟩
end Go.Proofs.Ytfchccgajcjbbaa
