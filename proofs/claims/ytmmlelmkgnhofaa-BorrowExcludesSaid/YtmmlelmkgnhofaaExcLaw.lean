/-
  The law BorrowExcludes as a walk: called with any arguments of its types it returns true. No conditions.
-/
import Derived.Test.YtmmlelmkgnhofaaExb
namespace Go.Proofs.Ytmmlelmkgnhofaa
open Go.ChangeShapes Go.WideShapes Go.RowKit
set_option linter.unusedVariables false
set_option linter.unusedSimpArgs false
set_option maxHeartbeats 8000000
set_option maxRecDepth 100000

/-- What the law knows between two rounds. -/
def Ov (w0 : World) (N p : Nat) (w : World) : Prop := Below w0.heap.size w0 w ∧ ∃ c L, Led w c 1 p L ∧ (∀ g, g < w0.heap.size → c g = 0) ∧ Wl N L ∧ Hs L
theorem Ov.go {w0 w w' : World} {N p : Nat} (h : Ov w0 N p w) (hb : Below w.heap.size w w') : Ov w0 N p w' := by
  obtain ⟨hB, c, L, h1, h2, h3, h4⟩ := h
  exact ⟨Below.then hB hb (Nat.le_refl _), c, L, h1.go hb, h2, h3, h4⟩
/-- The ledger stands where it stood. -/
def Ob (w0 : World) (N p : Nat) (c : Nat → Nat) (L : List Bo) (w : World) : Prop := Below w0.heap.size w0 w ∧ Led w c 1 p L
theorem Ob.go {w0 w w' : World} {N p : Nat} {c : Nat → Nat} {L : List Bo} (h : Ob w0 N p c L w) (hb : Below w.heap.size w w') : Ob w0 N p c L w' :=
  ⟨Below.then h.1 hb (Nat.le_refl _), h.2.go hb⟩
theorem borrowExcludes_walk (a0 : Option Addr) (len0 cap0 : Nat) (w : World) (w0 : Fou w w.heap.size a0 len0 cap0) :
    Calls Try.prog 5 #[.slice a0 len0 cap0] w fun e w' => e = .returned (.bool true) ∧ Below w.heap.size w w' := by
  have HD := Lib.hid w0
  have hcap := w0.cap
  have hsm := w0.small
  unfold maxLen at hsm
  clear w0
  go_enter Try.func5, Try.ntmps5
  go_wp2_with fail
  refine (awake14_any w).mono ?_
  rintro e ws ⟨rfl, hbs⟩
  have HBS := Lib.hid hbs
  have HN := Lib.hid (newL_any ws (fun _ => 0) 1)
  clear hbs
  go_wp2_with fail
  refine HN.out.mono ?_
  rintro e wa ⟨p, rfl, hp, hL, hb⟩
  have HP0 : Hid (Ov w 0 p wa) := Lib.hid ⟨Below.then HBS.out hb (Nat.le_refl _), _, _, hL, fun g hg => by rw [rc_old (by have := HBS.out.size; omega)], Wl.nil, by intro x hx; cases hx⟩
  clear HN hL hb HBS
  go_wp2
  go_loopw [4] (fun kv wr => ∃ i : Nat, i ≤ len0 ∧ i ≤ 40 ∧ kv = .int .i64 i ∧ Hid (Ov w i p wr)) (fun kv _ => 40 - (intOf kv).toNat)
  case atStart => exact ⟨0, by omega, by omega, rfl, HP0⟩
  case round =>
    obtain ⟨i, hi, hi40, rfl, hh⟩ := hrel
    have hi0 : (0 : Int) ≤ (i : Int) := by omega
    by_cases hin : i < len0 ∧ i < 40
    · have hi1 : (i : Int) < (len0 : Int) := by omega
      have hi2 : (i : Int) < 40 := by omega
      obtain ⟨hB, cf, L, hL, hlo, hW, hs⟩ := hh.out
      obtain ⟨b, o, x0, x1, x2, x3, rfl, hc, c0, c1, c2, c3⟩ := HD.out.load hin.1
      obtain ⟨g0, g1, g2, g3⟩ := hc _ hB
      have HLO := Lib.hid hlo
      have HW := Lib.hid hW
      have HS := Lib.hid hs
      have e3 := Int.emod_nonneg x2 (show (3 : Int) ≠ 0 by omega)
      have e4 := Int.emod_lt_of_pos x2 (show (0 : Int) < 3 by omega)
      have e5 : 0 ≤ 1 + x2 % 3 ∧ 1 + x2 % 3 ≤ 255 := by omega
      have e6 : (1 + x2 % 3) % 4 = 1 + x2 % 3 := by omega
      have e7 : 1 ≤ (1 + x2 % 3) % 4 ∧ (1 + x2 % 3) % 4 ≤ 3 := by omega
      have hb1 : Below wr.heap.size wr (wr.alloc (.cells #[.int .u8 x0, .int .u8 x1, .int .u8 (1 + x2 % 3), .int .u8 x3] 30)) := (Below.refl _ _).alloc (Nat.le_refl _) _
      have HX1 : Hid (Bx4 (wr.alloc (.cells #[.int .u8 x0, .int .u8 x1, .int .u8 (1 + x2 % 3), .int .u8 x3] 30)) wr.heap.size x0 x1 (1 + x2 % 3) x3) := Lib.hid (heap_alloc_new wr _)
      have HB1 := Lib.hid (Below.then hB hb1 (Nat.le_refl _))
      have HL1 := Lib.hid (hL.kept (j := 0) (c' := rc cf wr.heap.size 0) (Kept.ofBelow hb1) (by omega) (fun g hg => rc_old hg))
      have HLO1 : Hid (∀ g, g < w.heap.size → rc cf wr.heap.size 0 g = 0) := Lib.hid (fun g hg => by rw [rc_old (by have := hB.size; omega)]; exact hlo g hg)
      have HC1 : Hid (rc cf wr.heap.size 0 wr.heap.size = 0) := Lib.hid (rc_new (Nat.le_refl _))
      have HLI := Lib.hid (listedL_any (some ⟨p, 0, none⟩) L (wr.alloc (.cells #[.int .u8 x0, .int .u8 x1, .int .u8 (1 + x2 % 3), .int .u8 x3] 30)) (by have := hW.len; omega) (fun W hb => all_any (HL1.out.go hb).toq hW.srt hW.ri (by have := hW.len; omega)))
      clear hc hh hB hL hlo hW hs hb1
      go_wp2_with fail
      generalize wr.alloc (.cells #[.int .u8 x0, .int .u8 x1, .int .u8 (1 + x2 % 3), .int .u8 x3] 30) = w1 at *
      generalize wr.heap.size = bx at *
      generalize rc cf bx 0 = c1' at *
      refine HLI.out.mono ?_
      rintro e w2 ⟨v2, rfl, ho2, hb2⟩
      obtain ⟨A2, n2, k2, rfl, _⟩ := ho2.shape
      have hT := Two.new HL1.out HLO1.out HW.out HB1.out.size hb2 ho2
      have hb3 : Below w1.heap.size w1 (w2.alloc (.cells #[.slice A2 n2 k2] 28)) := hb2.alloc hb2.size _
      have HT := Lib.hid hT
      have HB3 := Lib.hid (Below.then HB1.out hb3 (Nat.le_refl _))
      have HX3 : Hid (Bx4 (w2.alloc (.cells #[.slice A2 n2 k2] 28)) bx x0 x1 (1 + x2 % 3) x3) := Lib.hid ((hb3.block _ (Array.getElem?_eq_some_iff.1 HX1.out).1).trans HX1.out)
      clear ho2 hb2 hb3 hT HLI HL1 HB1 HX1 HLO1 HC1
      obtain ⟨q0, q1, q2, q3⟩ := HX3.out.cells
      go_wp2_with fail
      generalize w2.alloc (.cells #[.slice A2 n2 k2] 28) = w3 at *
      generalize w2.heap.size = m at *
      generalize rc c1' w1.heap.size 2 = c3' at *
      refine (step14_any (x0 := x0) (x1 := x1) (x2 := 1 + x2 % 3) (x3 := x3) HT.out (by omega) c0 c1 e5 c3).mono ?_
      rintro e w5 hst
      obtain ⟨rfl, hb5, d5, hT5⟩ := Pv.step HB3.out HT.out hst
      have HS5 := Lib.hid (stp_hs (x0 := x0) (x1 := x1) (x2 := 1 + x2 % 3) (x3 := x3) HS.out e7)
      have HO5 : Hid (Ob w (i + 1) p d5 (stpL x0 x1 (1 + x2 % 3) x3 L) w5) := Lib.hid ⟨hb5, hT5.lb⟩
      have HW5 := Lib.hid hT5.wl
      have HLO5 := Lib.hid hT5.lo
      clear hst hb5 hT5 HT HB3 HX3 HW HS HLO g0 g1 g2 g3 q0 q1 q2 q3
      generalize stpL x0 x1 (1 + x2 % 3) x3 L = L5 at *
      have HNL : Hid (L5.length ≤ 1000000) := Lib.hid (by have := HW5.out.len; omega)
      go_wp2
      go_loopw [7] (fun kv wx => ∃ q : Nat, q ≤ 4 ∧ kv = .int .i64 q ∧ Hid (Ob w (i + 1) p d5 L5 wx)) (fun kv _ => 4 - (intOf kv).toNat)
      case atStart => exact ⟨0, by omega, rfl, HO5⟩
      case round =>
        obtain ⟨q, hq, rfl, hx⟩ := hrel
        have hq0 : (0 : Int) ≤ (q : Int) := by omega
        by_cases hq4 : q < 4
        · have hq1 : (q : Int) < 4 := by omega
          have HRI : Hid (Ri (q : Int)) := Lib.hid (WalkArith.wf_i64 (by omega))
          obtain ⟨hex1, hex2⟩ := excl (o := (q : Int)) HW5.out HS5.out
          have HEX1 := Lib.hid hex1
          have HEX2 := Lib.hid hex2
          have HX := hx
          clear hx hex1 hex2
          go_wp2
          go_loopw [8, 9, 10] (fun wv rv kv wy => ∃ t : Nat, t ≤ 4 ∧ kv = .int .i64 t ∧ wv = .int .i64 (cw (may (q : Int) 2 L5) t : Nat) ∧ rv = .int .i64 (cw (may (q : Int) 1 L5) t : Nat) ∧ Hid (Ob w (i + 1) p d5 L5 wy)) (fun _ _ kv _ => 4 - (intOf kv).toNat)
          case atStart => exact ⟨0, by omega, rfl, rfl, rfl, HX⟩
          case round =>
            obtain ⟨t, ht, rfl, rfl, rfl, hy⟩ := hrel
            have ht0 : (0 : Int) ≤ (t : Int) := by omega
            have hcw := cw_le (may (q : Int) 2 L5) t
            have hcr := cw_le (may (q : Int) 1 L5) t
            by_cases ht4 : t < 4
            · have ht1 : (t : Int) < 4 := by omega
              have HOY := hy
              have HA := Lib.hid (fun W (h : Ob w (i + 1) p d5 L5 W) (b : Bool) (a : Int) => access_any (p := (t : Int)) b a h.2.toq HRI.out HW5.out.srt HNL.out)
              have hM : may (q : Int) 2 L5 t = true → may (q : Int) 1 L5 t = true := HEX1.out t ht4
              have hs2 : cw (may (q : Int) 2 L5) (t + 1) = cw (may (q : Int) 2 L5) t + (if may (q : Int) 2 L5 t then 1 else 0) := rfl
              have hs1 : cw (may (q : Int) 1 L5) (t + 1) = cw (may (q : Int) 1 L5) t + (if may (q : Int) 1 L5 t then 1 else 0) := rfl
              have HS2 := Lib.hid hs2
              have HS1 := Lib.hid hs1
              have hW2 : (accE (q : Int) (t : Int) ((t : Int) == 0) 2 L5 == 0) = may (q : Int) 2 L5 t := rfl
              have hR2 : (accE (q : Int) (t : Int) ((t : Int) == 0) 1 L5 == 0) = may (q : Int) 1 L5 t := rfl
              clear hy hs2 hs1
              generalize cw (may (q : Int) 2 L5) t = cwt at *
              generalize cw (may (q : Int) 1 L5) t = crt at *
              generalize may (q : Int) 2 L5 t = mw at *
              generalize may (q : Int) 1 L5 t = mr at *
              go_wp2_with fail
              refine (HA.out _ HOY.out _ _).mono ?_
              rintro e w6 ⟨rfl, hb6⟩
              have HO6 := Lib.hid (HOY.out.go hb6)
              clear hb6 HOY
              go_wp2_with fail
              refine (HA.out _ HO6.out _ _).mono ?_
              rintro e w7 ⟨rfl, hb7⟩
              have HO7 := Lib.hid (HO6.out.go hb7)
              clear hb7 HO6 HA
              have HRW := Lib.hid hW2
              have HRR := Lib.hid hR2
              cases mw with
              | true =>
                obtain rfl : mr = true := hM rfl
                have s2 := HS2.out
                have s1 := HS1.out
                simp only [if_true] at s2 s1
                clear hM HS1 HS2 HRW HRR
                go_wp2
                go_roundw
                case rel => exact ⟨t + 1, by omega, by go_num, by rw [s2]; go_num, by rw [s1]; go_num, HO7⟩
                case measure => simp [intOf]; omega
              | false =>
                cases mr with
                | true =>
                  have s2 := HS2.out
                  have s1 := HS1.out
                  simp only [if_true, Bool.false_eq_true, if_false] at s2 s1
                  clear hM HS1 HS2 HRW HRR
                  go_wp2
                  go_roundw
                  case rel => exact ⟨t + 1, by omega, by go_num, by rw [s2]; go_num, by rw [s1]; go_num, HO7⟩
                  case measure => simp [intOf]; omega
                | false =>
                  have s2 := HS2.out
                  have s1 := HS1.out
                  simp only [Bool.false_eq_true, if_false] at s2 s1
                  clear hM HS1 HS2 HRW HRR
                  go_wp2
                  go_roundw
                  case rel => exact ⟨t + 1, by omega, by go_num, by rw [s2]; go_num, by rw [s1]; go_num, HO7⟩
                  case measure => simp [intOf]; omega
            · obtain rfl : t = 4 := by omega
              have HOY := hy
              clear hy
              rcases HEX2.out with ⟨s2, s1⟩ | ⟨s2, s1⟩
              · rw [s2] at hcw ⊢
                generalize cw (may (q : Int) 1 L5) 4 = crt at *
                have f1 : ((crt : Int) == 0) = false := by rw [beq_eq_false_iff_ne]; omega
                have f2 : ¬ crt = 0 := by omega
                clear HEX1 HEX2 s2 hcw
                go_wp2
                go_roundw
                case rel => exact ⟨q + 1, by omega, by go_num, HOY⟩
                case measure => simp [intOf]; omega
              · rw [s2, s1]
                clear HEX1 HEX2 s2 s1 hcw hcr
                go_wp2
                go_roundw
                case rel => exact ⟨q + 1, by omega, by go_num, HOY⟩
                case measure => simp [intOf]; omega
        · have hq1 : ¬ (q : Int) < 4 := by omega
          have HP : Hid (Ov w (i + 1) p wr) := Lib.hid ⟨hx.out.1, d5, L5, hx.out.2, HLO5.out, HW5.out, HS5.out⟩
          clear hx
          go_wp2
          go_roundw
          case rel => exact ⟨i + 1, by omega, by omega, by go_num, HP⟩
          case measure => simp [intOf]; omega
    · have HB := Lib.hid hh.out.1
      clear hh
      rcases (by omega : (¬ i < len0) ∨ (i < len0 ∧ ¬ i < 40)) with hs | ⟨hs, hs2⟩
      · have hi1 : ¬ (i : Int) < (len0 : Int) := by omega
        go_wp2_with fail
        refine (awake14_any wr).mono ?_
        rintro e w4 ⟨rfl, hb4⟩
        have HB4 := Lib.hid (Below.then HB.out hb4 (Nat.le_refl _))
        clear hb4
        go_wp2
        go_ret
        exact ⟨rfl, HB4.out⟩
      · have hi1 : (i : Int) < (len0 : Int) := by omega
        have hi2 : ¬ (i : Int) < 40 := by omega
        go_wp2_with fail
        refine (awake14_any wr).mono ?_
        rintro e w4 ⟨rfl, hb4⟩
        have HB4 := Lib.hid (Below.then HB.out hb4 (Nat.le_refl _))
        clear hb4
        go_wp2
        go_ret
        exact ⟨rfl, HB4.out⟩
end Go.Proofs.Ytmmlelmkgnhofaa
