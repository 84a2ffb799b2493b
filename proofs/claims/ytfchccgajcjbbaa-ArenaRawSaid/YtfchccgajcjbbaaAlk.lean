/-
  Contracts of the comparison of an arena with its model, and of the example of chapter 7. Conditions: at most eight hundred extents.
-/
import Derived.Test.YtfchccgajcjbbaaBui
import Derived.Test.YtfchccgajcjbbaaSrt
import Derived.Test.YtfchccgajcjbbaaArnF
namespace Go.Proofs.Ytfchccgajcjbbaa
open Go.ChangeShapes Go.WideShapes Go.ChangeAt Go.RowKit
set_option maxHeartbeats 8000000
set_option maxRecDepth 100000

theorem same_yes (A A' : Option Addr) (n n' c c' : Nat) (l : List (Int × Int)) (w : World) (h : Exs w w.heap.size A n c l) (h' : Exs w w.heap.size A' n' c' l) :
    Calls Try.prog 34 #[.slice A n c, .slice A' n' c'] w (Tell w true) := by
  have HA := Lib.hid h
  have HA' := Lib.hid h'
  obtain rfl : n = n' := h.len.symm.trans h'.len
  have hsm := h.small
  have hcap := h.cap
  have hsm' := h'.small
  have hcap' := h'.cap
  unfold maxLen at hsm hsm'
  clear h h'
  go_enter Try.func34, Try.ntmps34
  go_wp2
  go_loopw [5] (fun i wr => ∃ (k : Nat), k ≤ n ∧ i = .int .i64 k ∧ Hid (Below w.heap.size w wr)) (fun i _ => n - (intOf i).toNat)
  case atStart => exact ⟨0, by omega, rfl, Lib.hid (Below.refl _ _)⟩
  case round =>
    obtain ⟨k, hk, rfl, hh⟩ := hrel
    by_cases hlt : k < n
    · obtain ⟨b, o, x, y, hx, rfl, hb, hc1, hc2, x0, x1, y0, y1⟩ := (HA.out.below hh.out).at_ hlt
      obtain ⟨b', o', x', y', hx', rfl, hb', hc1', hc2', _⟩ := (HA'.out.below hh.out).at_ hlt
      rw [hx] at hx'
      cases hx'
      clear hx
      have hlt' : (k : Int) < (n : Int) := by omega
      go_wp2
      go_quiet (fail)
      go_wp2
      go_roundw
      case rel => exact ⟨k + 1, by omega, by go_num, Lib.hid (below_drewN hh.out _)⟩
      case measure => simp [intOf]; omega
    · go_wp2
      go_ret
      exact ⟨rfl, hh.out⟩
theorem Sr.txt {w : World} {c : Nat → Nat} {a p g q g2 : Nat} {F A U : List (Int × Int)} {bs : List Int} (h : Sr w c a p g q g2 F A U bs) {T : ByteArray} (hT : strOfNums bs = T) :
    (convert 40 9 (.slice (some ⟨g2, 0, none⟩) bs.length bs.length)).run Try.prog w = .ok (.string T) w := (h.mr.byt.row h.mr.small).text hT
theorem alike_any (w : World) (c : Nat → Nat) (a p g q g2 : Nat) (F A U : List (Int × Int)) (bs : List Int) (h : Sr w c a p g q g2 F A U bs) (hU : U.length ≤ 900) :
    Calls Try.prog 12 #[.pointer (some ⟨a, 0, none⟩), .pointer (some ⟨q, 0, none⟩)] w (Tell w true) := by
  obtain ⟨T, hT⟩ : ∃ T, strOfNums bs = T := ⟨_, rfl⟩
  have HT := Lib.hid hT
  have hF : F.length ≤ 1000000 := by have := gd_flen h.gd; omega
  have hbd : Below w.heap.size w w.drew := below_drewN (Below.refl _ _) 1
  have HBD := Lib.hid hbd
  have HS0 := Lib.hid (h.go hbd)
  have hqlt := h.mr.lt
  have hqd : q < w.drew.heap.size := HS0.out.mr.lt
  have hsmall := h.mr.small
  clear h hT hbd
  go_enter Try.func12, Try.ntmps12
  go_wp2_with fail
  go_region_with
    (first
      | (go_at_call 26
         refine (freeListA_any c a p g F A bs w.drew HS0.out.ar hF).mono ?_
         rintro e w1 ⟨v1, rfl, ho1, hb1⟩
         obtain ⟨A1, n1, c1, rfl, hx1⟩ := ho1.shape
         have HX1 := Lib.hid hx1
         have HS1 := Lib.hid (HS0.out.go hb1)
         have HB1 := Lib.hid (Below.then HBD.out hb1 (Nat.le_refl _))
         have hq1 : q < w1.heap.size := HS1.out.mr.lt
         clear ho1 hb1 hx1)
      | (go_at_call 35
         refine (freeListR_any c 2 q _ F A U w1 HS1.out.mr.mo HS1.out.gd HS1.out.pm hU).mono ?_
         rintro e w2 ⟨v2, rfl, ho2, hb2⟩
         obtain ⟨A2, n2, c2, rfl, hx2⟩ := ho2.shape
         have HX1' := Lib.hid (HX1.out.go hb2)
         have HX2 := Lib.hid hx2
         have HS2 := Lib.hid (HS1.out.go hb2)
         have HB2 := Lib.hid (Below.then HB1.out hb2 (Nat.le_refl _))
         have hq2 : q < w2.heap.size := HS2.out.mr.lt
         clear ho2 hb2 hx2)
      | (go_at_call 34
         refine (same_yes A1 A2 n1 n2 c1 c2 F w2 HX1'.out HX2.out).mono ?_
         rintro e w3 ⟨rfl, hb3⟩
         have HS3 := Lib.hid (HS2.out.go hb3)
         have HB3 := Lib.hid (Below.then HB2.out hb3 (Nat.le_refl _))
         have hq3 : q < w3.heap.size := HS3.out.mr.lt
         have k2 := HS3.out.mr.cell2
         have t2 := HS3.out.txt HT.out
         clear hb3)
      | (go_at_call 27
         refine (bytes_any c a p g F A bs w3 HS3.out.ar).mono ?_
         rintro e w4 ⟨v4, rfl, ho4, hb4⟩
         obtain ⟨A4, n4, c4, rfl, hr4⟩ := ho4.shape
         have HS4 := Lib.hid (HS3.out.go hb4)
         have HB4 := Lib.hid (Below.then HB3.out hb4 (Nat.le_refl _))
         have hq4 : q < w4.heap.size := HS4.out.mr.lt
         have k4 := HS4.out.mr.cell2
         have t4 := HS4.out.txt HT.out
         have t5 := hr4.text HT.out
         clear ho4 hb4 hr4))
  all_goals
    go_wp2
    go_ret
    exact ⟨rfl, HB4.out⟩

theorem cmp64 : cmp 0 [] ((64 : Nat) : Int) = [(0, 64)] := by decide
theorem szR_8 : szR 8 = 16 := szR_is (k := 0) (by decide) (by decide) ⟨by decide, by decide⟩
theorem ch8 : chR [(0, 64)] 8 = ((0, 16), 0) := by
  have h1 : erR 8 = 0 := by decide
  unfold chR
  rw [if_pos h1, szR_8]
  rfl
theorem gd64 : Gd ((List.replicate 64 (0 : Int)).length : Int) [(0, 64)] [] := by
  have h := gd_new (n := 64) (by omega) (by omega)
  rw [show cmp 0 [] (64 : Int) = [(0, 64)] by decide] at h
  exact h
theorem aw_num : numC [((0 : Int), (16 : Int))] 0 16 3 ((2 : Nat) : Int) = 0 := by simp [numC, wi]
theorem aw_num2 : numC [((0 : Int), (16 : Int))] 0 16 4 1 = 0 := by simp [numC, wi]
theorem aw_st : stC [((0 : Int), (16 : Int))] 0 16 3 2 258 = 0 := by
  unfold stC
  rw [aw_num, if_pos rfl]
  decide
theorem aw_ld : ldR [((0 : Int), (16 : Int))] (stB [((0 : Int), (16 : Int))] (List.replicate 64 0) 0 16 3 2 258) 0 16 4 1 = 1 := by
  unfold ldR stB
  rw [aw_num2, aw_st, if_pos rfl, if_pos rfl]
  decide
theorem awake_any (w : World) : Calls Try.prog 11 #[] w (Tell w true) := by
  have H := Lib.hid (newA_ok (fun _ => 0) 64 w (by omega))
  go_enter Try.func11, Try.ntmps11
  go_wp2_with fail
  refine H.out.mono ?_
  rintro e w1 ⟨c1, a, p, g, rfl, ha, hb, hc, _⟩
  rw [cmp64] at ha
  have HA1 := Lib.hid ha
  have HB1 := Lib.hid hb
  have HC1 := Lib.hid hc
  clear H ha hb hc
  go_wp2_with fail
  refine (allocA_any c1 a p g [(0, 64)] [] [] (List.replicate 64 0) 8 w1 HA1.out gd64 (by simp) (List.Perm.refl _)).mono ?_
  rw [ch8]
  rintro e w2 ⟨F', A', ⟨rfl, c2, ha2, hk2, hc2, hn2⟩, hg2, hp2, _⟩
  obtain rfl : A' = [(0, 16)] := List.perm_singleton.1 hp2
  have hb3 : Below w2.heap.size w2 (w2.alloc (.cells #[.int .i64 0, .int .i64 16] 31)) := (Below.refl _ _).alloc (Nat.le_refl _) _
  have HE3 := Lib.hid (Box.new (w := w2) (x := 0) (y := 16))
  have HA3 := Lib.hid (ha2.go hb3)
  have HG2 := Lib.hid hg2
  have HK3 := Lib.hid (hk2.trans (KS.ofBelow (c := c2) hb3) hc2)
  have HC2 : Hid ((∀ x, x < w.heap.size → c2 x = 0) ∧ c2 w2.heap.size = 9 ∧ ∀ x, x < w1.heap.size → c2 x = c1 x) := Lib.hid ⟨fun x hx => by
    have := HB1.out.size
    rw [hc2 x (by omega)]; exact HC1.out x hx, hn2 _ (Nat.le_refl _), hc2⟩
  clear ha2 hk2 hc2 hn2 hg2 hp2 hb3
  simp only [rV]
  have e0 := HE3.out.cell0
  have e1 := HE3.out.cell1
  go_wp2_with fail
  generalize w2.alloc (.cells #[.int .i64 0, .int .i64 16] 31) = w3 at *
  generalize w2.heap.size = t at *
  refine (storeA_any c2 a p g F' [(0, 16)] (List.replicate 64 0) 0 16 3 258 2 w3 HA3.out HG2.out (by simp)).mono ?_
  rw [aw_st]
  rintro e w4 ⟨rfl, c4, ha4, hk4, hc4, _⟩
  have HE4 : Hid (Box w4 t 0 16) := Lib.hid (HE3.out.ks hk4 (by rw [HC2.out.2.1]; exact sp_not (by omega) (by omega)))
  have HA4 := Lib.hid ha4
  have HG4 : Hid (Gd ((stB [((0 : Int), (16 : Int))] (List.replicate 64 0) 0 16 3 2 258).length : Int) F' [(0, 16)]) := Lib.hid (by rw [stB_len]; exact HG2.out)
  have HK4 := Lib.hid (HK3.out.trans hk4 HC2.out.2.2)
  have e2 := HE4.out.cell0
  have e3 := HE4.out.cell1
  clear ha4 hk4 hc4 e0 e1 HE3 HA3
  go_wp2_with fail
  refine (loadA_any c4 a p g F' [(0, 16)] _ 0 16 4 1 w4 HA4.out HG4.out (by simp)).mono ?_
  rw [aw_ld, aw_num2]
  rintro e w5 ⟨rfl, hb5⟩
  have HK5 : Hid (Below w.heap.size w w5) := Lib.hid (Below.then (Below.trans HB1.out (HK4.out.below (B := w.heap.size) (fun x hx => by rw [HC1.out x hx]; exact sp_not (by omega) (by omega)) HB1.out.size)) hb5 (by
    have h1 := HB1.out.size
    have h2 := HK4.out.size
    omega))
  clear hb5 e2 e3
  go_wp2
  go_ret
  exact ⟨rfl, HK5.out⟩
end Go.Proofs.Ytfchccgajcjbbaa
