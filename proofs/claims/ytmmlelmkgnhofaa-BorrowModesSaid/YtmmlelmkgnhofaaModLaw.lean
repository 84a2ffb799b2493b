/-
  The law BorrowModes as a walk: called with any arguments of its types it returns true. No conditions.
-/
import Derived.Test.YtmmlelmkgnhofaaPvb
namespace Go.Proofs.Ytmmlelmkgnhofaa
open Go.ChangeShapes Go.WideShapes Go.RowKit
set_option linter.unusedVariables false
set_option linter.unusedSimpArgs false
set_option maxHeartbeats 8000000
set_option maxRecDepth 100000

theorem Pv.go {w0 w w' : World} {N p m : Nat} (h : Pv w0 N p m w) (hb : Below w.heap.size w w') : Pv w0 N p m w' := by
  obtain ⟨hB, c, L, hT⟩ := h
  exact ⟨Below.then hB hb (Nat.le_refl _), _, L, hT.go hb⟩
theorem all_one {l : List Bo} {x : Bo} (hs : l.Pairwise fun a b => a.h < b.h) (hx : x ∈ l) (ha : ∀ y ∈ l, y = x) : l.length = 1 := by
  match l, hs with
  | [], _ => cases hx
  | [_], _ => rfl
  | a :: b :: l', hs =>
    have h1 := ha a (by simp)
    have h2 := ha b (by simp)
    have h3 := (List.pairwise_cons.1 hs).1 b (by simp)
    subst h1 h2
    omega
theorem modes_at {N k : Nat} {L : List Bo} {o : Int} {x : Bo} (H : Wl N L) (hx : (ofL o L)[k]? = some x) :
    x.o = o ∧ 1 ≤ x.c ∧ (x.m = 2 → x.c = 1 ∧ (ofL o L).length = 1) ∧ (∀ y, 0 < k → (ofL o L)[k - 1]? = some y → y.h < x.h) := by
  have hm := List.mem_of_getElem? hx
  obtain ⟨h1, h2⟩ := mem_of.1 hm
  refine ⟨h2, (H.ps x h1).1, fun e => ?_, fun y hk hy => ?_⟩
  · obtain ⟨h3, h4⟩ := H.ex x h1 e
    exact ⟨h3, all_one (H.srt.hs o) hm (fun y hy => h4 y (mem_of.1 hy).1 ((mem_of.1 hy).2.trans h2.symm))⟩
  · obtain ⟨i1, e1⟩ := List.getElem?_eq_some_iff.1 hx
    obtain ⟨i2, e2⟩ := List.getElem?_eq_some_iff.1 hy
    have := List.pairwise_iff_getElem.1 (H.srt.hs o) (k - 1) k i2 i1 (by omega)
    rw [e1, e2] at this
    exact this
theorem borrowModes_walk (a0 : Option Addr) (len0 cap0 : Nat) (w : World) (w0 : Fou w w.heap.size a0 len0 cap0) :
    Calls Try.prog 6 #[.slice a0 len0 cap0] w fun e w' => e = .returned (.bool true) ∧ Below w.heap.size w w' := by
  have HD := Lib.hid w0
  have hcap := w0.cap
  have hsm := w0.small
  unfold maxLen at hsm
  have HN := Lib.hid (newL_any w (fun _ => 0) 1)
  clear w0
  go_enter Try.func6, Try.ntmps6
  go_wp2_with fail
  refine HN.out.mono ?_
  rintro e wa ⟨p, rfl, hp, hL, hb⟩
  have HP0 : Hid (Pv w 0 p wa.heap.size (wa.alloc (.cells #[.slice none 0 0] 28))) := Lib.hid ⟨hb.alloc hb.size _, _, _, Two.made hL hb (Nat.le_refl _)⟩
  clear HN hL hb
  go_wp2
  generalize wa.alloc (.cells #[.slice none 0 0] 28) = wb at *
  generalize wa.heap.size = m at *
  go_loopw [5] (fun kv wr => ∃ i : Nat, i ≤ len0 ∧ i ≤ 40 ∧ kv = .int .i64 i ∧ Hid (Pv w i p m wr)) (fun kv _ => 40 - (intOf kv).toNat)
  case atStart => exact ⟨0, by omega, by omega, rfl, HP0⟩
  case round =>
    obtain ⟨i, hi, hi40, rfl, hh⟩ := hrel
    have hi0 : (0 : Int) ≤ (i : Int) := by omega
    by_cases hin : i < len0 ∧ i < 40
    · have hi1 : (i : Int) < (len0 : Int) := by omega
      have hi2 : (i : Int) < 40 := by omega
      obtain ⟨hB, cf, L, hT⟩ := hh.out
      obtain ⟨b, o, x0, x1, x2, x3, rfl, hc, c0, c1, c2, c3⟩ := HD.out.load hin.1
      obtain ⟨g0, g1, g2, g3⟩ := hc _ hB
      have HB0 := Lib.hid hB
      have HT0 := Lib.hid hT
      have HST := Lib.hid (step14_any (x0 := x0) (x1 := x1) (x2 := x2) (x3 := x3) hT (by omega) c0 c1 c2 c3)
      clear hc hh hB hT
      go_wp2_with fail
      refine HST.out.mono ?_
      rintro e w5 hst
      obtain ⟨rfl, hb5, d5, hT5⟩ := Pv.step HB0.out HT0.out hst
      have HP : Hid (Pv w (i + 1) p m w5) := Lib.hid ⟨hb5, _, _, hT5⟩
      clear hst hb5 hT5 HST HB0 HT0 g0 g1 g2 g3
      go_wp2
      go_loopw [6] (fun kv wx => ∃ q : Nat, q ≤ 4 ∧ kv = .int .i64 q ∧ Hid (Pv w (i + 1) p m wx)) (fun kv _ => 4 - (intOf kv).toNat)
      case atStart => exact ⟨0, by omega, rfl, HP⟩
      case round =>
        obtain ⟨q, hq, rfl, hx⟩ := hrel
        have hq0 : (0 : Int) ≤ (q : Int) := by omega
        by_cases hq4 : q < 4
        · have hq1 : (q : Int) < 4 := by omega
          obtain ⟨hB, cx, L', hT⟩ := hx.out
          have HW := Lib.hid hT.wl
          have HOF := Lib.hid (of_any hT.lb.toq (show Ri (q : Int) from WalkArith.wf_i64 (by omega)) (by have := hT.wl.len; omega))
          have HX := hx
          clear hB hT hx
          go_wp2_with fail
          refine HOF.out.mono ?_
          rintro e w6 ⟨v6, rfl, ho6, hb6⟩
          obtain ⟨A6, n6, k6, rfl, hx6⟩ := ho6.shape
          have HP6 := Lib.hid (HX.out.go hb6)
          have HX6 := Lib.hid hx6
          have hcap6 := hx6.cap
          have hsm6 := hx6.small
          unfold maxLen at hsm6
          clear ho6 hb6 hx6 HOF HX
          go_wp2
          go_loopw [39] (fun kv wy => ∃ j : Nat, j ≤ n6 ∧ kv = .int .i64 j ∧ Hid (Below w6.heap.size w6 wy)) (fun kv _ => n6 - (intOf kv).toNat)
          case atStart => exact ⟨0, by omega, rfl, Lib.hid (Below.refl _ _)⟩
          case round =>
            obtain ⟨j, hj, rfl, hy⟩ := hrel
            have hj0 : (0 : Int) ≤ (j : Int) := by omega
            by_cases hjn : j < n6
            · have hj1 : (j : Int) < (n6 : Int) := by omega
              obtain ⟨bb, ob, x, hx, rfl, hbb, k0, k1, k2, k3⟩ := (HX6.out.below hy.out).bo hjn
              obtain ⟨f1, f2, f3, f4⟩ := modes_at HW.out hx
              rw [HX6.out.len] at f3
              have HY := hy
              obtain ⟨xo, xh, xm, xc⟩ := x
              simp only at f1 f2 f3 f4 k0 k1 k2 k3
              subst f1
              by_cases hj' : j = 0
              · subst hj'
                simp only [Nat.zero_mul, Nat.add_zero] at k0 k1 k2 k3
                by_cases hm : xm = 2
                · obtain ⟨f5, f6⟩ := f3 hm
                  rw [hm] at k2
                  rw [f5] at k3
                  subst f6
                  clear hy hx hbb f4 f3
                  go_wp2
                  go_quiet (fail)
                  have HY2 := Lib.hid (Below.then HY.out (below_drewN (Below.refl wr.heap.size wr) nq) (Nat.le_refl _))
                  clear HY k0 k1 k2 k3
                  go_wp2
                  go_roundw
                  case rel => exact ⟨1, by omega, by go_num, HY2⟩
                  case measure => simp [intOf]
                · clear hy hx hbb f4 f3
                  have f7 : decide (xc < 1) = false := decide_eq_false (by omega)
                  have f8 : (xm == 2) = false := by simpa using hm
                  clear hm f2 hj
                  go_wp2
                  go_quiet (fail)
                  have HY2 := Lib.hid (Below.then HY.out (below_drewN (Below.refl wr.heap.size wr) nq) (Nat.le_refl _))
                  clear HY k0 k1 k2 k3
                  go_wp2
                  go_roundw
                  case rel => exact ⟨1, by omega, by go_num, HY2⟩
                  case measure => simp [intOf]; omega
              · obtain ⟨b2, o2, y, hy2, e2, _, l0, l1, l2, l3⟩ := (HX6.out.below hy.out).bo (show j - 1 < n6 by omega)
                cases e2
                have f5 := f4 y (by omega) hy2
                obtain ⟨yo, yh, ym, yc⟩ := y
                simp only at f5 l1
                have f6 : decide (xh ≤ yh) = false := decide_eq_false (by omega)
                have f7 : decide (xc < 1) = false := decide_eq_false (by omega)
                have f8 : (xm == 2) = false := by simpa using (fun e => by have := (f3 e).2; omega : ¬ xm = 2)
                have f9 : decide ((0 : Int) < (j : Int)) = true := decide_eq_true (by omega)
                have f11 : (0 : Int) < (j : Int) := by omega
                have f12 : 0 < j := by omega
                have f13 : (0 : Int) ≤ (j : Int) - 1 := by omega
                have f14 : (j : Int) - 1 < (n6 : Int) := by omega
                have f15 : ((j : Int) - 1).toNat = j - 1 := by omega
                have f10 : ((j - 1 : Nat) : Int) = (j : Int) - 1 := by omega
                clear hy hx hbb f4 f3 hy2 l0 l2 l3 f2 f5
                go_wp2
                go_quiet (fail)
                have HY2 := Lib.hid (Below.then HY.out (below_drewN (Below.refl wr.heap.size wr) nq) (Nat.le_refl _))
                clear HY k0 k1 k2 k3 l1
                go_wp2
                go_roundw
                case rel => exact ⟨j + 1, by omega, by go_num, HY2⟩
                case measure => simp [intOf]; omega
            · have hj1 : ¬ (j : Int) < (n6 : Int) := by omega
              have HP7 := Lib.hid (HP6.out.go hy.out)
              clear hy
              go_wp2
              go_roundw
              case rel => exact ⟨q + 1, by omega, by go_num, HP7⟩
              case measure => simp [intOf]; omega
        · have hq1 : ¬ (q : Int) < 4 := by omega
          have HX := hx
          clear hx
          go_wp2
          go_roundw
          case rel => exact ⟨i + 1, by omega, by omega, by go_num, HX⟩
          case measure => simp [intOf]; omega
    · have HB := Lib.hid hh.out.1
      clear hh
      rcases (by omega : (¬ i < len0) ∨ (i < len0 ∧ ¬ i < 40)) with hs | ⟨hs, hs2⟩
      · have hi1 : ¬ (i : Int) < (len0 : Int) := by omega
        go_wp2_with fail
        refine (awake14_any wr).mono ?_
        rintro e w4 ⟨rfl, hb4⟩
        have HB4 := Lib.hid (Below.then HB.out hb4 (Nat.le_refl _))
        clear hb4
        go_wp2
        go_ret
        exact ⟨rfl, HB4.out⟩
      · have hi1 : (i : Int) < (len0 : Int) := by omega
        have hi2 : ¬ (i : Int) < 40 := by omega
        go_wp2_with fail
        refine (awake14_any wr).mono ?_
        rintro e w4 ⟨rfl, hb4⟩
        have HB4 := Lib.hid (Below.then HB.out hb4 (Nat.le_refl _))
        clear hb4
        go_wp2
        go_ret
        exact ⟨rfl, HB4.out⟩
end Go.Proofs.Ytmmlelmkgnhofaa
