/-
  Contracts of the landed slots: End, Retired. Conditions: at most 4096 slots.
-/
import Derived.Test.YtaoojgnkbcoggaaGsl
namespace Go.Proofs.Ytaoojgnkbcoggaa
open Go.ChangeShapes Go.WideShapes Go.RowKit
set_option linter.unusedVariables false
set_option maxHeartbeats 4000000
set_option maxRecDepth 100000

/-- What End says and leaves. -/
def EnS (w : World) (c : Nat → Nat) (k p : Nat) (s : Gs) (x : Int) (e : Ending) (w' : World) : Prop :=
  e = .returned (.int .i64 (s.endV x)) ∧ Sls w' (rc c w.heap.size k) k p (s.endN x) ∧ Kept c k w w'
theorem set_set_two {l : List (Int × Bool)} {j : Nat} {x y : Int × Bool} : (l.set j x).set j y = l.set j y := by rw [List.set_set]
theorem endS_any (w : World) (c : Nat → Nat) (k p N : Nat) (s : Gs) (x : Int) (h : Sls w c k p s) (hW : s.Wf N) (hN : N ≤ 4096) :
    Calls Try.prog 44 #[.pointer (some ⟨p, 0, none⟩), .int .i64 x] w (EnS w c k p s x) := by
  have HL := Lib.hid (liveS_any w c k p N s x h hW)
  have HR := Lib.hid (h.2.end_ (k := x) hW)
  have hfl : s.free.length ≤ N := by have h1 := hW.ct; have h2 := hW.g0; omega
  have HH := Lib.hid h.1
  unfold EnS
  cases hx : (s.of x).2
  · have hv : s.endV x = 6 := if_neg (by rw [hx]; simp)
    have hs : s.endN x = s := if_neg (by rw [hx]; simp)
    rw [hs] at HR
    rw [hv, hs]
    rw [hx] at HL
    clear h hW hv hs hx
    go_enter Try.func44, Try.ntmps44
    go_wp2_with fail
    refine HL.out.mono ?_
    rintro e w2 ⟨rfl, rfl⟩
    go_wp2
    go_ret
    exact ⟨rfl, ⟨HH.out.kept (j := k + 1) (Kept.refl) (by omega) (fun _ hg => rc_old hg), HR.out⟩, Kept.refl⟩
  · obtain ⟨hx0, hlv, hof⟩ := Gs.of_live hx
    obtain ⟨j, rfl⟩ : ∃ j : Nat, x = (j : Int) := ⟨x.toNat, by omega⟩
    rw [Int.toNat_natCast] at hlv hof
    have hj : j < N := by rw [← hW.ll]; exact (List.getElem?_eq_some_iff.1 hlv).1
    have hjl : s.sts[j]? = some (s.gen.getD j 0, true) := Gs.sts_live (by rw [hW.gl]; exact hj) hlv
    have hlen : s.sts.length = N := by rw [Gs.sts_len, hW.gl]
    have hv : s.endV (j : Int) = 0 := if_pos hx
    have hst := Gs.sts_end hW hlv
    have hgb : 1 ≤ s.gen.getD j 0 ∧ s.gen.getD j 0 ≤ 4294967295 := by
      have h1 := hW.gb j hj
      have h2 := hW.lg j hlv
      have h3 := hW.f1
      omega
    have hfr : (s.endN (j : Int)).free = if s.gen.getD j 0 = 4294967295 then s.free else s.free ++ [(j : Int)] := by
      unfold Gs.endN
      rw [if_pos hx, Int.toNat_natCast]
      split <;> rfl
    rw [hx, hof] at HL
    rw [hv]
    obtain ⟨g, cap, a1, a2, a3, a4, a5, a6, a7⟩ := h.1.setLive hjl false
    unfold maxLen at a3
    rw [hlen] at a1 a2
    have HK1 := Lib.hid a7
    obtain ⟨g2, cap2, b1, b2, b3, b4, b5, b6, b7⟩ := a6.setGen (i := j) (a := s.gen.getD j 0) (b := false) (by rw [List.getElem?_set_self (by rw [hlen]; exact hj)]) (s.gen.getD j 0 + 1)
    rw [set_set_two, ← hst] at b6
    unfold maxLen at b3
    rw [List.length_set, hlen] at b1 b2
    have HS2 := Lib.hid b6
    have HK2 := Lib.hid (HK1.out.trans b7)
    have HZ : Hid (((w.setCell ⟨g, j * 2 + 1, none⟩ (.bool false)).setCell ⟨g2, j * 2, none⟩ (.int .i64 (s.gen.getD j 0 + 1))).heap.size = w.heap.size) := Lib.hid (by simp [World.setCell])
    have hjN : (j : Int) < (N : Int) := by omega
    by_cases hm : s.gen.getD j 0 = 4294967295
    · rw [if_pos hm] at hfr
      have HFR := Lib.hid hfr
      rw [hm] at HL b4 HS2 HK2 HZ
      rw [show (4294967295 : Int) + 1 = 4294967296 from rfl] at HS2 HK2 HZ
      clear h hW hx hof hlv hjl hlen hv hst hfr hgb hm a6 a7 b6 b7
      go_enter Try.func44, Try.ntmps44
      go_wp2_with fail
      refine HL.out.mono ?_
      rintro e w2 ⟨rfl, rfl⟩
      go_wp2
      go_ret
      refine ⟨rfl, ⟨?_, HR.out⟩, HK2.out⟩
      rw [HFR.out]
      exact HS2.out.kept (j := k + 1) (Kept.refl) (by omega) (fun g hg => rc_old (by rw [HZ.out] at hg; exact hg))
    · rw [if_neg hm] at hfr
      have HFR := Lib.hid hfr
      have hml : s.gen.getD j 0 < 4294967295 := by omega
      have hmr : -9223372036854775808 ≤ s.gen.getD j 0 + 1 ∧ s.gen.getD j 0 + 1 ≤ 9223372036854775807 := by omega
      obtain ⟨q, dd, q1, hP, hput, _⟩ := b6.pool
      have HPU := Lib.hid (putI_any _ dd 1 q s.free (j : Int) hP (by omega))
      have HPT := Lib.hid hput
      clear h hW hx hof hlv hjl hlen hv hst hfr hgb hm a6 a7 b6 b7 hP hput
      generalize s.gen.getD j 0 = gv at *
      go_enter Try.func44, Try.ntmps44
      go_wp2_with fail
      refine HL.out.mono ?_
      rintro e w2 ⟨rfl, rfl⟩
      go_wp2_with fail
      refine HPU.out.mono ?_
      rintro e w3 ⟨⟨v, rfl⟩, hP3, hK3⟩
      have HS3 := Lib.hid (HPT.out _ _ hP3 hK3)
      rw [HZ.out] at HS3
      clear hP3 hK3
      go_wp2
      go_ret
      refine ⟨rfl, ⟨?_, HR.out⟩, HK2.out.trans HS3.out.2⟩
      rw [HFR.out]
      exact HS3.out.1
theorem countP_next {l : List (Int × Bool)} {i : Nat} {x : Int × Bool} (h : l[i]? = some x) : (l.take (i + 1)).countP big = (l.take i).countP big + (if big x = true then 1 else 0) := by
  rw [show l.take (i + 1) = l.take i ++ [x] by rw [List.take_add_one, h]; rfl, List.countP_append, List.countP_cons, List.countP_nil]
  omega
theorem retS_any (w : World) (c : Nat → Nat) (k p N : Nat) (s : Gs) (h : Sls w c k p s) (hW : s.Wf N) (hN : N ≤ 4096) :
    Calls Try.prog 49 #[.pointer (some ⟨p, 0, none⟩)] w fun e w' => e = .returned (.int .i64 s.gone) ∧ Below w.heap.size w w' := by
  obtain ⟨A, n, cap, q, d, q0, q1, hk, hP⟩ := h.1.cells
  have hnl := hk.len
  have hsl := Gs.sts_len (s := s)
  have hnN : n = N := by have := hW.gl; omega
  have p1 := hk.cap
  have s1 := hk.small
  unfold maxLen at s1
  have HK := Lib.hid hk
  have HR : Hid ((s.sts.countP big : Int) = s.gone) := Lib.hid h.2
  have HNL := Lib.hid hnl
  have hn : n ≤ 4096 := by omega
  clear h hk hP hW hnl hsl hnN
  go_enter Try.func49, Try.ntmps49
  go_wp2
  go_loopw [3, 13] (fun ct kv wr => ∃ i : Nat, i ≤ n ∧ kv = .int .i64 i ∧ (∃ m : Nat, m ≤ i ∧ ct = .int .i64 m ∧ Hid (m = (s.sts.take i).countP big)) ∧ Hid (Below w.heap.size w wr)) (fun _ kv _ => n - (intOf kv).toNat)
  case atStart => exact ⟨0, by omega, rfl, ⟨0, by omega, rfl, Lib.hid (by simp)⟩, Lib.hid (Below.refl _ _)⟩
  case round =>
    obtain ⟨i, hi, rfl, ⟨m, hm, rfl, hmm⟩, hh⟩ := hrel
    by_cases hin : i < n
    · have hi1 : (i : Int) < (n : Int) := by omega
      have hkr := HK.out.below hh.out
      obtain ⟨g, o, x, hx, rfl, _, e0, e1⟩ := hkr.st_at hin
      have HNX := Lib.hid (countP_next hx)
      have HB := Lib.hid (hh.out.alloc hh.out.size (.cells #[.int .i64 x.1, .bool x.2] 107))
      clear hkr hx
      by_cases hb : x.1 > 4294967295
      · have HBG : Hid (big x = true) := Lib.hid (big_yes hb)
        go_wp2
        go_roundw
        case rel => exact ⟨i + 1, by omega, by go_num, ⟨m + 1, by omega, by go_num, Lib.hid (by rw [HNX.out, HBG.out, if_pos rfl, ← hmm.out])⟩, HB⟩
        case measure => simp [intOf]; omega
      · have HBG : Hid (big x = false) := Lib.hid (big_no (by omega))
        go_wp2
        go_roundw
        case rel => exact ⟨i + 1, by omega, by go_num, ⟨m, by omega, rfl, Lib.hid (by rw [HNX.out, HBG.out, if_neg (by simp), ← hmm.out]; rfl)⟩, HB⟩
        case measure => simp [intOf]; omega
    · obtain rfl : i = n := by omega
      have hii : ¬ (i : Int) < (i : Int) := by omega
      go_wp2
      go_ret
      refine ⟨?_, hh.out⟩
      rw [← HR.out, hmm.out, List.take_of_length_le (by rw [HNL.out]; omega)]
      rfl
end Go.Proofs.Ytaoojgnkbcoggaa
