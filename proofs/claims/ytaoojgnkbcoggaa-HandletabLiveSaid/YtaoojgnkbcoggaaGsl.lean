/-
  Contracts of the landed slots: Size, Live, Issue, End, Retired. Conditions: at most 4096 slots.
-/
import Derived.Test.YtaoojgnkbcoggaaGsr
import Derived.Test.YtaoojgnkbcoggaaGme
import Derived.Test.YtaoojgnkbcoggaaPit
namespace Go.Proofs.Ytaoojgnkbcoggaa
open Go.ChangeShapes Go.WideShapes Go.RowKit
set_option linter.unusedVariables false
set_option maxHeartbeats 4000000
set_option maxRecDepth 100000

theorem sizeS_any (w : World) (c : Nat → Nat) (k p : Nat) (l : List (Int × Bool)) (fr : List Int) (h : Slr w c k p l fr) :
    Calls Try.prog 37 #[.pointer (some ⟨p, 0, none⟩)] w fun e w' => e = .returned (.int .i64 (l.length : Int)) ∧ w = w' := by
  obtain ⟨A, n, cap, q, d, q0, q1, hk, hP⟩ := h.cells
  have HN := Lib.hid hk.len
  clear h hk hP
  go_enter Try.func37, Try.ntmps37
  go_wp2
  go_ret
  exact ⟨by rw [HN.out]; rfl, rfl⟩
theorem liveS_any (w : World) (c : Nat → Nat) (k p N : Nat) (s : Gs) (x : Int) (h : Sls w c k p s) (hW : s.Wf N) :
    Calls Try.prog 38 #[.pointer (some ⟨p, 0, none⟩), .int .i64 x] w fun e w' => e = .returned (.tuple #[.int .i64 (s.of x).1, .bool (s.of x).2]) ∧ w = w' := by
  have HS := Lib.hid (sizeS_any w c k p _ _ h.1)
  obtain ⟨A, n, cap, q, d, q0, q1, hk, hP⟩ := h.1.cells
  have hnl := hk.len
  have hsl := Gs.sts_len (s := s)
  have p1 := hk.cap
  have s1 := hk.small
  unfold maxLen at s1
  rw [hnl] at HS
  by_cases hx0 : x < 0
  · have ho : s.of x = (0, false) := if_neg (by omega)
    rw [ho]
    clear h hk hP hW ho
    go_enter Try.func38, Try.ntmps38
    go_wp2
    go_ret2
    exact ⟨rfl, rfl⟩
  · obtain ⟨i, rfl⟩ : ∃ i : Nat, x = (i : Int) := ⟨x.toNat, by omega⟩
    by_cases hi : i < n
    · have hi1 : ¬ (i : Int) ≥ (n : Int) := by omega
      obtain ⟨g, o, y, hy, rfl, _, e0, e1⟩ := hk.st_at hi
      have hig : i < s.gen.length := by omega
      rw [Gs.sts_at hig] at hy
      have hil : i < s.live.length := by rw [hW.ll, ← hW.gl]; exact hig
      cases hl : s.live.getD i false
      · have hlq : s.live[i]? = some false := by
          rw [List.getD_eq_getElem?_getD, List.getElem?_eq_getElem hil] at hl
          rw [List.getElem?_eq_getElem hil, ← hl]
          rfl
        have ho : s.of (i : Int) = (0, false) := if_neg (by rw [Int.toNat_natCast, hlq]; simp)
        rw [hl] at hy
        have hy2 : y.2 = false := by rw [← Option.some.inj hy]
        rw [hy2] at e1
        rw [ho]
        clear h hk hP hW ho hy hl hlq
        go_enter Try.func38, Try.ntmps38
        go_wp2_with fail
        refine HS.out.mono ?_
        rintro e w2 ⟨rfl, rfl⟩
        go_wp2
        go_ret2
        exact ⟨rfl, rfl⟩
      · have hlq : s.live[i]? = some true := by
          rw [List.getD_eq_getElem?_getD, List.getElem?_eq_getElem hil] at hl
          rw [List.getElem?_eq_getElem hil, ← hl]
          rfl
        have ho : s.of (i : Int) = (y.1, true) := by
          unfold Gs.of
          rw [Int.toNat_natCast, if_pos ⟨by omega, hlq⟩, ← Option.some.inj hy, hl]
          rfl
        rw [hl] at hy
        have hy2 : y.2 = true := by rw [← Option.some.inj hy]
        rw [hy2] at e1
        rw [ho]
        clear h hk hP hW ho hy hl hlq
        go_enter Try.func38, Try.ntmps38
        go_wp2_with fail
        refine HS.out.mono ?_
        rintro e w2 ⟨rfl, rfl⟩
        go_wp2
        go_ret2
        exact ⟨rfl, rfl⟩
    · have hi1 : (i : Int) ≥ (n : Int) := by omega
      have ho : s.of (i : Int) = (0, false) := if_neg (by rw [Int.toNat_natCast, List.getElem?_eq_none (by rw [hW.ll, ← hW.gl]; omega)]; simp)
      rw [ho]
      clear h hk hP hW ho
      go_enter Try.func38, Try.ntmps38
      go_wp2_with fail
      refine HS.out.mono ?_
      rintro e w2 ⟨rfl, rfl⟩
      go_wp2
      go_ret2
      exact ⟨rfl, rfl⟩
/-- What Issue says and leaves. -/
def IsS (w : World) (c : Nat → Nat) (k p : Nat) (s : Gs) (d : Int) (e : Ending) (w' : World) : Prop :=
  e = .returned (.tuple #[.int .i64 (s.issV d).1, .int .i64 (s.issV d).2.1, .int .i64 (s.issV d).2.2]) ∧ Sls w' (rc c w.heap.size k) k p (s.issN d) ∧ Kept c k w w'
theorem issS_any (w : World) (c : Nat → Nat) (k p N : Nat) (s : Gs) (d : Int) (h : Sls w c k p s) (hW : s.Wf N) (hN : N ≤ 4096) (hd : 0 ≤ d ∧ d < 18446744073709551616) :
    Calls Try.prog 46 #[.pointer (some ⟨p, 0, none⟩), .int .u64 d] w (IsS w c k p s d) := by
  have hfl : s.free.length ≤ N := by have h1 := hW.ct; have h2 := hW.g0; omega
  obtain ⟨q, dd, q1, hP, _, hput⟩ := h.1.pool
  have HT := Lib.hid (takeI_any w dd 1 q s.free d hP (by omega) hd)
  have HP := Lib.hid hput
  have HR := Lib.hid (h.2.iss (d := d) hW)
  unfold TkI at HT
  unfold IsS
  by_cases hf : s.free = []
  · have hv : s.issV d = (0, 0, 17) := if_pos hf
    have hs : s.issN d = s := if_pos hf
    have hfe : (!s.free.isEmpty) = false := by rw [hf]; rfl
    have htk : tkL 0 s.free d = s.free := by rw [hf]; rfl
    rw [hfe, htk] at HT
    rw [hs] at HR
    rw [hv, hs]
    clear h hP hput hW hv hs hfe htk
    go_enter Try.func46, Try.ntmps46
    go_wp2_with fail
    refine HT.out.mono ?_
    rintro e w2 ⟨rfl, hP2, hK2, _⟩
    have HS2 := Lib.hid (HP.out _ _ hP2 hK2)
    clear hP2 hK2
    go_wp2
    refine bodyPost_ret (results_tmp3 rfl _ _ _) rfl ?_
    exact ⟨rfl, ⟨HS2.out.1, HR.out⟩, HS2.out.2⟩
  · obtain ⟨j, hv, hxj, hj, hlf, hgj⟩ := Gs.iss_ok (d := d) hW hf
    have hfe : (!s.free.isEmpty) = true := by cases hfr : s.free with | nil => exact absurd hfr hf | cons _ _ => rfl
    have hst := Gs.sts_iss hW hf hxj hj
    have hfr : (s.issN d).free = tkL 0 s.free d := by unfold Gs.issN; rw [if_neg hf]
    rw [hfe, hxj] at HT
    have hjl : s.sts[j]? = some (s.nxt j, false) := Gs.sts_dead (by rw [hW.gl]; exact hj) hlf
    have hlen : s.sts.length = N := by rw [Gs.sts_len, hW.gl]
    rw [hv]
    have HST := Lib.hid (And.intro hst hfr)
    have HJL := Lib.hid hjl
    have HLN := Lib.hid hlen
    have hjN : (j : Int) < (N : Int) := by omega
    have HPW := Lib.hid h.1.lt
    clear h hP hput hW hv hfe hst hfr hjl hlen hxj hlf hgj
    go_enter Try.func46, Try.ntmps46
    go_wp2_with fail
    refine HT.out.mono ?_
    rintro e w2 ⟨rfl, hP2, hK2, _⟩
    obtain ⟨hS2, hKc⟩ := HP.out _ _ hP2 hK2
    obtain ⟨g, cap, a1, a2, a3, a4, a5, a6, a7⟩ := hS2.setLive HJL.out true
    unfold maxLen at a3
    rw [HLN.out] at a1 a2
    have HK3 := Lib.hid (hKc.rcT a7)
    obtain ⟨g2, cap2, b1, b2, b3, b4, _, _, _⟩ := a6.setGen (i := j) (a := s.nxt j) (b := true) (by rw [List.getElem?_set_self (by rw [HLN.out]; exact hj)]) 0
    unfold maxLen at b3
    rw [List.length_set, HLN.out] at b1 b2
    have HS3 := Lib.hid a6
    clear hP2 hK2 hS2 hKc a6 a7 q1
    go_wp2_with fail
    go_quiet (fail)
    go_wp2
    refine bodyPost_ret (results_tmp3 rfl _ _ _) rfl ?_
    refine ⟨rfl, ⟨?_, HR.out⟩, HK3.out.trans (Kept.ofBelow (below_drewN (Below.refl _ _) nq))⟩
    rw [HST.out.1, HST.out.2]
    exact HS3.out.go (below_drewN (Below.refl _ _) nq)
end Go.Proofs.Ytaoojgnkbcoggaa
