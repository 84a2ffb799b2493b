/-
  The law AllocatorExact as a walk: it returns true and changes nothing that was there. No conditions.
-/
import Derived.Test.YtbiamhandhbodaaUnLaw
namespace Go.Proofs.Ytbiamhandhbodaa
open Go.ChangeShapes Go.WideShapes Go.ChangeAt Go.RowKit
set_option maxHeartbeats 8000000
set_option maxRecDepth 100000

/-- What the search for the shortest length knows. -/
def Lst (s : Int) (l : List (Int × Int)) (f : Bool) (z : Int) : Prop := (f = false ∧ z = 0 ∧ best s l = none) ∨ (f = true ∧ ∃ x, best s l = some x ∧ z = x.2)

theorem allocatorExact_walk (r : Int) (At : Option Addr) (m ct : Nat) (kk : Int) (w : World) (hr : (Lit.int .u16 r).wf = true) (ht : Tri w w.heap.size At m ct) (hk : (Lit.int .u16 kk).wf = true) :
    Calls Try.prog 8 #[.int .u16 r, .slice At m ct, .int .u16 kk] w fun e w' => e = .returned (.bool true) ∧ Below w.heap.size w w' := by
  have hr1 := Go.bounds_u16 hr
  have hk1 := Go.bounds_u16 hk
  have hn0 : 0 ≤ r % 2000 := by omega
  have hn1 : r % 2000 ≤ 1048576 := by omega
  have hz0 : 0 ≤ kk % 300 := by omega
  have hz1 : kk % 300 < 300 := by omega
  have H := Lib.hid (runs_any At m ct (r % 2000) w ht hn0 hn1)
  have he0 : erR (1 + kk % 300) = 0 := er_small (by omega) (by omega)
  have HER := Lib.hid he0
  have HS := Lib.hid (sz_ge he0)
  have HRD := Lib.hid (fun W => roundR_any (1 + kk % 300) W)
  rw [he0] at HRD
  have HT := Lib.hid (fun F => ch_two (F := F) he0)
  have s0 := (szR_bd (1 + kk % 300)).1
  have s1 := (szR_bd (1 + kk % 300)).2
  clear ht hr hk he0
  go_enter Try.func8, Try.ntmps8
  go_wp2_with fail
  generalize r % 2000 = n at *
  refine H.out.mono ?_
  rintro e w1 ⟨c0, p, F, A, rfl, ha, hg, hl, hb, hc⟩
  have HA := Lib.hid (ha.recol (c' := rc c0 w1.heap.size 9) (fun g hg => rc_old hg))
  have HG := Lib.hid hg
  have HB := Lib.hid hb
  have hw1 := hb.size
  have HC : Hid ((∀ g, g < w.heap.size → rc c0 w1.heap.size 9 g = 0) ∧ ∀ g, w1.heap.size ≤ g → rc c0 w1.heap.size 9 g = 9) := Lib.hid ⟨fun g hg => by rw [rc_old (by omega)]; exact hc g hg, fun g hg => rc_new hg⟩
  generalize rc c0 w1.heap.size 9 = c at *
  have hF : F.length ≤ 1000000 := by have := gd_flen hg; omega
  clear H ha hg hb hc
  go_wp2_with fail
  refine (HRD.out w1).mono ?_
  rintro e w2 ⟨rfl, hb⟩
  have HA2 := Lib.hid (HA.out.go hb)
  have HB2 := Lib.hid (Below.then HB.out hb (by omega))
  have hw2 := hb.size
  clear hb HA HB HRD
  go_wp2_with fail
  refine (freeList_any c 1 p F A w2 HA2.out hF).mono ?_
  rintro e w3 ⟨v, rfl, ho, hb⟩
  obtain ⟨Aw, nw, cw, rfl, hxw⟩ := ho.shape
  have HO := Lib.hid ho
  have HX := Lib.hid hxw
  have hlen := hxw.len
  have hcap := hxw.cap
  have hsm := hxw.small
  unfold maxLen at hsm
  have HA3 := Lib.hid (HA2.out.go hb)
  have HB3 := Lib.hid (Below.then HB2.out hb (by omega))
  have hw3 := hb.size
  clear ho hb hxw HA2 HB2
  have HT := Lib.hid (HT.out F)
  generalize hss : szR (1 + kk % 300) = s at *
  have HSS := Lib.hid hss
  clear hss
  go_wp2
  go_loopw [11, 12, 43] (fun fv zv iv wr => ∃ (i : Nat) (f : Bool) (z : Int), i ≤ nw ∧ iv = .int .i64 i ∧ fv = .bool f ∧ zv = .int .i64 z ∧ Hid (Lst s (F.take i) f z ∧ Below w3.heap.size w3 wr)) (fun _ _ iv _ => nw - (intOf iv).toNat)
  case atStart => exact ⟨0, false, 0, by omega, rfl, rfl, rfl, Lib.hid ⟨.inl ⟨rfl, rfl, by simp [best]⟩, Below.refl _ _⟩⟩
  case round =>
    obtain ⟨i, f, z, hi, rfl, rfl, rfl, hh⟩ := hrel
    by_cases hlt : i < nw
    · obtain ⟨b, o, u, v, hu, rfl, hb, hc1, hc2, x0, x1, y0, y1⟩ := (HX.out.below hh.out.2).at_ hlt
      have hst := best_step (s := s) hu
      have hlt' : (i : Int) < (nw : Int) := by omega
      have HB4 := Lib.hid (hh.out.2.alloc hh.out.2.size (.cells #[.int .i64 u, .int .i64 v] 39))
      by_cases hs : s ≤ v
      · have ds : decide (s ≤ v) = true := decide_eq_true hs
        rcases hh.out.1 with ⟨rfl, rfl, hbn⟩ | ⟨rfl, x, hbs, rfl⟩
        · have HNB : Hid (Lst s (F.take (i + 1)) true v) := Lib.hid (.inr ⟨rfl, (u, v), by rw [hst, hbn]; simp [bstep, hs], rfl⟩)
          clear hst hbn hh hu
          go_wp2
          go_roundw
          case rel => exact ⟨i + 1, true, v, by omega, by go_num, rfl, rfl, Lib.hid ⟨HNB.out, HB4.out⟩⟩
          case measure => simp [intOf]; omega
        · by_cases hvx : v < x.2
          · have dv : decide (v < x.2) = true := decide_eq_true hvx
            have HNB : Hid (Lst s (F.take (i + 1)) true v) := Lib.hid (.inr ⟨rfl, (u, v), by rw [hst, hbs]; simp [bstep, hs, hvx], rfl⟩)
            clear hst hbs hh hu
            go_wp2
            go_roundw
            case rel => exact ⟨i + 1, true, v, by omega, by go_num, rfl, rfl, Lib.hid ⟨HNB.out, HB4.out⟩⟩
            case measure => simp [intOf]; omega
          · have dv : decide (v < x.2) = false := decide_eq_false hvx
            have HNB : Hid (Lst s (F.take (i + 1)) true x.2) := Lib.hid (.inr ⟨rfl, x, by rw [hst, hbs]; simp [bstep, hvx], rfl⟩)
            clear hst hbs hh hu
            go_wp2
            go_roundw
            case rel => exact ⟨i + 1, true, x.2, by omega, by go_num, rfl, rfl, Lib.hid ⟨HNB.out, HB4.out⟩⟩
            case measure => simp [intOf]; omega
      · have ds : decide (s ≤ v) = false := decide_eq_false hs
        have HNB : Hid (Lst s (F.take (i + 1)) f z) := Lib.hid (by
          rcases hh.out.1 with ⟨rfl, rfl, hbn⟩ | ⟨rfl, x, hbs, rfl⟩
          · exact .inl ⟨rfl, rfl, by rw [hst, hbn]; simp [bstep, hs]⟩
          · exact .inr ⟨rfl, x, by rw [hst, hbs]; simp [bstep, hs], rfl⟩)
        clear hst hh hu
        go_wp2
        go_roundw
        case rel => exact ⟨i + 1, f, z, by omega, by go_num, rfl, rfl, Lib.hid ⟨HNB.out, HB4.out⟩⟩
        case measure => simp [intOf]; omega
    · obtain rfl : i = nw := by omega
      have hlt' : ¬ (i : Int) < (i : Int) := by omega
      have hTk : F.take i = F := List.take_of_length_le (by omega)
      have hL := hh.out.1
      rw [hTk] at hL
      have HA4 := Lib.hid (HA3.out.go hh.out.2)
      have HO4 := Lib.hid (HO.out.below hh.out.2)
      have HB4 := Lib.hid (Below.then HB3.out hh.out.2 (by have := HB3.out.size; omega))
      have hw4 := hh.out.2.size
      clear hh hTk
      rcases HT.out with ⟨hb, hch⟩ | ⟨y, hb, hch⟩
      · have hfz : f = false ∧ z = 0 := by
          rcases hL with ⟨h1, h2, _⟩ | ⟨_, x, h2, _⟩
          · exact ⟨h1, h2⟩
          · rw [hb] at h2; cases h2
        obtain ⟨rfl, rfl⟩ := hfz
        have H5 := Lib.hid (alloc_no c 1 p F A (1 + kk % 300) wr HA4.out hF (by rw [hch]; simp))
        rw [hch] at H5
        clear hb hch HT hL
        go_wp2_with fail
        refine H5.out.mono ?_
        rintro e w5 ⟨rfl, hb⟩
        have hb6 : Below w5.heap.size w5 (w5.alloc (.cells #[.int .i64 0, .int .i64 0] 39)) := (Below.refl _ _).alloc (Nat.le_refl _) _
        have HB6 := Lib.hid (Below.then HB4.out (Below.then hb hb6 (Nat.le_refl _)) (by have := HB4.out.size; omega))
        clear hb hb6 H5 HA4 HO4 HB4
        go_wp2_with fail
        generalize w5.alloc (.cells #[.int .i64 0, .int .i64 0] 39) = w6 at *
        refine (awake6_any w6).mono ?_
        rintro e w7 ⟨rfl, hb⟩
        have HB7 := Lib.hid (Below.then HB6.out hb (by have := HB6.out.size; omega))
        clear hb HB6
        go_wp2
        go_ret
        exact ⟨rfl, HB7.out⟩
      · have hfz : f = true ∧ z = y.2 := by
          rcases hL with ⟨_, _, h2⟩ | ⟨h1, x, h2, h3⟩
          · rw [hb] at h2; cases h2
          · rw [hb] at h2; cases h2; exact ⟨h1, h3⟩
        obtain ⟨rfl, rfl⟩ := hfz
        obtain ⟨j, hj⟩ := lb_ex HG.out y.1
        obtain ⟨g1, g2, g3⟩ := gd_alloc HG.out hb HS.out hj
        have H5 := Lib.hid (alloc_yes c 1 p j F A n (1 + kk % 300) y.1 s wr HA4.out HG.out (by omega) hch g2 g3 hj)
        have HG1 := Lib.hid g1
        have hlen' : (A.take j ++ (y.1, s) :: A.drop j).length ≤ 25 := by rw [List.length_append, List.length_take, List.length_cons, List.length_drop]; have := hj.1; omega
        have HM1 : Hid ((y.1, s) ∈ A.take j ++ (y.1, s) :: A.drop j) := Lib.hid (by simp)
        have HYF := Lib.hid (best_some hb).1
        generalize A.take j ++ (y.1, s) :: A.drop j = A' at *
        obtain ⟨ya, yb⟩ := y
        simp only at *
        clear hb hch HT hL hj g1 g2 g3
        go_wp2_with fail
        refine H5.out.mono ?_
        rintro e w5 ⟨rfl, ha5, hk5⟩
        have hz5 := hk5.size
        have HB5 := Lib.hid (Below.trans HB4.out (hk5.below (B := w.heap.size) (fun g hg => by rw [HC.out.1 g hg]; omega) (by omega)))
        have HO5 := Lib.hid (HO4.out.keptC hk5 (fun g hg => by have := HO4.out.blk_ge hg; rw [HC.out.2 g (by omega)]; omega))
        have hb6 : Below w5.heap.size w5 (w5.alloc (.cells #[.int .i64 ya, .int .i64 s] 39)) := (Below.refl _ _).alloc (Nat.le_refl _) _
        have HE6 := Lib.hid (Box.new (w := w5) (x := ya) (y := s))
        have HA6 := Lib.hid (ha5.go hb6)
        have HX6 := Lib.hid (HO5.out.below hb6).exs
        have HB6 := Lib.hid (Below.then HB5.out hb6 (by have := HB5.out.size; omega))
        clear ha5 hk5 hb6 H5 HO4 HA4 HB4 HO5 HB5
        go_wp2
        generalize w5.alloc (.cells #[.int .i64 ya, .int .i64 s] 39) = w6 at *
        have hw6 : w5.heap.size < w6.heap.size := HE6.out.lt
        go_loopw [18, 82] (fun mv iv wq => ∃ (i' : Nat) (mt : Bool), i' ≤ i ∧ iv = .int .i64 i' ∧ mv = .bool mt ∧ Hid (mt = decide ((ya, yb) ∈ F.take i') ∧ Below w6.heap.size w6 wq)) (fun _ iv _ => i - (intOf iv).toNat)
        case atStart => exact ⟨0, false, by omega, rfl, rfl, Lib.hid ⟨by simp, Below.refl _ _⟩⟩
        case round =>
          obtain ⟨i', mt, hi', rfl, rfl, hh⟩ := hrel
          by_cases hlt2 : i' < i
          · obtain ⟨b, o, u, v, hu, rfl, hb, hc1, hc2, x0, x1, y0, y1⟩ := (HX6.out.below hh.out.2).at_ hlt2
            have hlt2' : (i' : Int) < (i : Int) := by omega
            have hbe : Below wr.heap.size wr (wr.alloc (.cells #[.int .i64 u, .int .i64 v] 39)) := (Below.refl _ _).alloc (Nat.le_refl _) _
            have HB7 := Lib.hid (hh.out.2.alloc hh.out.2.size (.cells #[.int .i64 u, .int .i64 v] 39))
            have e0 := (HE6.out.go hh.out.2).cell0
            have e1 := cell_under e0 (.cells #[.int .i64 u, .int .i64 v] 39)
            have hmt := hh.out.1
            have hstep : decide ((ya, yb) ∈ F.take (i' + 1)) = (mt || decide (u = ya ∧ v = yb)) := by
              rw [take_one hu, hmt]
              by_cases hm : (ya, yb) ∈ F.take i'
              · simp [hm]
              · by_cases hq : u = ya ∧ v = yb
                · obtain ⟨rfl, rfl⟩ := hq
                  simp
                · rw [Bool.eq_iff_iff]
                  simp [hm]
                  constructor
                  · rintro ⟨h1, h2⟩; exact ⟨h1.symm, h2.symm⟩
                  · rintro ⟨h1, h2⟩; exact ⟨h1.symm, h2.symm⟩
            clear hh hu hmt hbe
            cases mt with
            | true =>
              have HNB : Hid (true = decide ((ya, yb) ∈ F.take (i' + 1))) := Lib.hid (by rw [hstep]; rfl)
              clear hstep
              go_wp2
              go_roundw
              case rel => exact ⟨i' + 1, true, by omega, by go_num, rfl, Lib.hid ⟨HNB.out, HB7.out⟩⟩
              case measure => simp [intOf]; omega
            | false =>
              by_cases hua : u = ya
              · by_cases hvb : v = yb
                · subst hua hvb
                  have HNB : Hid (true = decide ((u, v) ∈ F.take (i' + 1))) := Lib.hid (by rw [hstep]; simp)
                  clear hstep
                  go_wp2
                  go_roundw
                  case rel => exact ⟨i' + 1, true, by omega, by go_num, by simp, Lib.hid ⟨HNB.out, HB7.out⟩⟩
                  case measure => simp [intOf]; omega
                · subst hua
                  have HNB : Hid (false = decide ((u, yb) ∈ F.take (i' + 1))) := Lib.hid (by rw [hstep]; simp [hvb])
                  have hvb' : (v == yb) = false := by simpa using hvb
                  clear hstep
                  go_wp2
                  go_roundw
                  case rel => exact ⟨i' + 1, false, by omega, by go_num, by simp, Lib.hid ⟨HNB.out, HB7.out⟩⟩
                  case measure => simp [intOf]; omega
              · have HNB : Hid (false = decide ((ya, yb) ∈ F.take (i' + 1))) := Lib.hid (by rw [hstep]; simp [hua])
                have hua' : (u == ya) = false := by simpa using hua
                clear hstep
                go_wp2
                go_roundw
                case rel => exact ⟨i' + 1, false, by omega, by go_num, by simp, Lib.hid ⟨HNB.out, HB7.out⟩⟩
                case measure => simp [intOf]; omega
          · obtain rfl : i' = i := by omega
            have hlt2' : ¬ (i' : Int) < (i' : Int) := by omega
            have hmt : mt = true := by
              rw [hh.out.1, List.take_of_length_le (by omega)]
              exact decide_eq_true HYF.out
            subst hmt
            have HE7 := Lib.hid (HE6.out.go hh.out.2)
            have HA7 := Lib.hid (HA6.out.go hh.out.2)
            have HB7 := Lib.hid (Below.then HB6.out hh.out.2 (by have := HB6.out.size; omega))
            clear hh
            go_wp2_with fail
            refine (awake6_any wr).mono ?_
            rintro e w8 ⟨rfl, hb⟩
            have HE8 := Lib.hid (HE7.out.go hb)
            have HA8 := Lib.hid (HA7.out.go hb)
            have HB8 := Lib.hid (Below.then HB7.out hb (by have := HB7.out.size; omega))
            have e0 := HE8.out.cell0
            have e1 := HE8.out.cell1
            clear hb HE7 HA7 HB7
            go_wp2_with fail
            have H9 := Lib.hid (has_alc _ 1 p _ A' n ya s w8 HA8.out HG1.out (by omega))
            rw [decide_eq_true HM1.out] at H9
            refine H9.out.mono ?_
            rintro e w9 ⟨rfl, hb⟩
            have HB9 := Lib.hid (Below.then HB8.out hb (by have := HB8.out.size; omega))
            clear hb HA8 HE8 HB8 e0 e1 H9
            go_wp2
            go_ret
            exact ⟨rfl, HB9.out⟩
end Go.Proofs.Ytbiamhandhbodaa
