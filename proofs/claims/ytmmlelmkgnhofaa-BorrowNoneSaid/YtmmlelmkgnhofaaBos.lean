/-
  Contracts of the comparison of holders, of slices.BinarySearchFunc over borrows in ascending order of their holders, and of find: the first place whose holder is not less, and whether it is equal. Conditions: the list has at most a million borrows.
-/
import Derived.Test.YtmmlelmkgnhofaaBod
namespace Go.Proofs.Ytmmlelmkgnhofaa
open Go.ChangeShapes Go.WideShapes Go.ChangeAt Go.RowKit
set_option linter.unusedVariables false
set_option maxHeartbeats 4000000
set_option maxRecDepth 100000

/-- The three-way comparison. -/
def cmpI (x y : Int) : Int := if x < y then -1 else if y < x then 1 else 0
theorem nan_any (x : Int) (w : World) : Calls Try.prog 51 #[.int .i64 x] w fun e w' => e = .returned (.bool false) ∧ w = w' := by
  go_enter Try.func51, Try.ntmps51
  go_wp2
  go_ret
  exact ⟨by simp, rfl⟩
theorem compare_any (x y : Int) (w : World) : Calls Try.prog 45 #[.int .i64 x, .int .i64 y] w fun e w' => e = .returned (.int .i64 (cmpI x y)) ∧ w = w' := by
  have H1 := Lib.hid (nan_any x w)
  have H2 := Lib.hid (nan_any y w)
  have HC : Hid ((x < y → cmpI x y = -1) ∧ (¬ x < y → y < x → cmpI x y = 1) ∧ (¬ x < y → ¬ y < x → cmpI x y = 0)) := Lib.hid ⟨fun h => by simp [cmpI, h], fun h h' => by simp [cmpI, h, h'], fun h h' => by simp [cmpI, h, h']⟩
  go_enter Try.func45, Try.ntmps45
  go_wp2_with fail
  refine H1.out.mono ?_
  rintro e w1 ⟨rfl, rfl⟩
  go_wp2_with fail
  refine H2.out.mono ?_
  rintro e w1 ⟨rfl, rfl⟩
  clear H1 H2
  by_cases h1 : x < y
  · go_wp2
    go_ret
    exact ⟨by rw [HC.out.1 h1]; rfl, rfl⟩
  · by_cases h2 : y < x
    · go_wp2
      go_ret
      exact ⟨by rw [HC.out.2.1 h1 h2]; rfl, rfl⟩
    · go_wp2
      go_ret
      exact ⟨by rw [HC.out.2.2 h1 h2]; rfl, rfl⟩
theorem cmpHo_any (x : Bo) (k : Int) (w : World) : Calls Try.prog 44 #[.agg #[.int .i64 x.o, .int .i64 x.h, .int .i64 x.m, .int .i64 x.c], .int .i64 k] w fun e w' => e = .returned (.int .i64 (cmpI x.h k)) ∧ Below w.heap.size w w' := by
  have H := Lib.hid (fun W => compare_any x.h k W)
  generalize cmpI x.h k = r at *
  go_enter Try.func44, Try.ntmps44
  go_wp2_with fail
  refine (H.out _).mono ?_
  rintro e w1 ⟨rfl, rfl⟩
  clear H
  go_wp2
  go_ret
  exact ⟨rfl, (Below.refl _ _).alloc (Nat.le_refl _) _⟩
theorem asc_lo {l : List Bo} {x : Int} {m : Nat} {z : Bo} (hs : l.Pairwise fun a b => a.h < b.h) (hz : l[m]? = some z) (hlt : z.h < x) : ∀ k y, k < m + 1 → l[k]? = some y → y.h < x := fun k y hk hy => by
  rcases Nat.lt_or_ge k m with h | h
  · obtain ⟨h1, h2⟩ := List.getElem?_eq_some_iff.1 hy
    obtain ⟨h3, h4⟩ := List.getElem?_eq_some_iff.1 hz
    have := List.pairwise_iff_getElem.1 hs k m h1 h3 h
    rw [h2, h4] at this
    omega
  · obtain rfl : k = m := by omega
    rw [hz] at hy
    obtain rfl := Option.some.inj hy
    exact hlt
theorem asc_hi {l : List Bo} {x : Int} {m : Nat} {z : Bo} (hs : l.Pairwise fun a b => a.h < b.h) (hz : l[m]? = some z) (hge : x ≤ z.h) : ∀ k y, m ≤ k → l[k]? = some y → x ≤ y.h := fun k y hk hy => by
  rcases Nat.lt_or_ge m k with h | h
  · obtain ⟨h1, h2⟩ := List.getElem?_eq_some_iff.1 hy
    obtain ⟨h3, h4⟩ := List.getElem?_eq_some_iff.1 hz
    have := List.pairwise_iff_getElem.1 hs m k h3 h1 h
    rw [h2, h4] at this
    omega
  · obtain rfl : k = m := by omega
    rw [hz] at hy
    obtain rfl := Option.some.inj hy
    exact hge
theorem Kws.bo {w : World} {B n c : Nat} {A : Option Addr} {l : List Bo} (h : Kws bo4 w B A n c l) {i : Nat} (hi : i < n) :
    ∃ b o x, l[i]? = some x ∧ A = some ⟨b, o, none⟩ ∧ b < B ∧ w.cell? ⟨b, o + i * 4, none⟩ = some (.int .i64 x.o) ∧ w.cell? ⟨b, o + i * 4 + 1, none⟩ = some (.int .i64 x.h) ∧ w.cell? ⟨b, o + i * 4 + 2, none⟩ = some (.int .i64 x.m) ∧ w.cell? ⟨b, o + i * 4 + 3, none⟩ = some (.int .i64 x.c) := by
  obtain ⟨b, o, x, h1, h2, h3, h4⟩ := h.at_ hi
  exact ⟨b, o, x, h1, h2, h3, h4 0 _ rfl, h4 1 _ rfl, h4 2 _ rfl, h4 3 _ rfl⟩
/-- What the search says. -/
def FoundB (w : World) (l : List Bo) (k : Int) (e : Ending) (w' : World) : Prop := ∃ (i : Nat) (f : Bool), e = .returned (.tuple #[.int .i64 i, .bool f]) ∧ Lbo l k i ∧ (f = true ↔ ∃ z, l[i]? = some z ∧ z.h = k) ∧ Below w.heap.size w w'
theorem bsearch_any (A : Option Addr) (n c : Nat) (l : List Bo) (x : Int) (w : World) (h : Kws bo4 w w.heap.size A n c l) (hn : n ≤ 1000000) (hv : l.Pairwise fun a b => a.h < b.h) :
    Calls Try.prog 43 #[.slice A n c, .int .i64 x, .func (.func 44) #[] #[]] w (FoundB w l x) := by
  have HB := Lib.hid h
  have HV := Lib.hid hv
  have hcap := h.cap
  have hsm := h.small
  unfold maxLen at hsm
  clear h hv
  go_enter Try.func43, Try.ntmps43
  go_wp2
  go_loopw [9, 10] (fun iv jv wr => ∃ (i j : Nat), i ≤ j ∧ j ≤ n ∧ iv = .int .i64 i ∧ jv = .int .i64 j ∧ Hid ((∀ k z, k < i → l[k]? = some z → z.h < x) ∧ (∀ k z, j ≤ k → l[k]? = some z → x ≤ z.h) ∧ Below w.heap.size w wr)) (fun iv jv _ => (intOf jv).toNat - (intOf iv).toNat)
  case atStart => exact ⟨0, n, by omega, by omega, rfl, rfl, Lib.hid ⟨fun k x hk => by omega, fun k x hk hx => by have := (List.getElem?_eq_some_iff.1 hx).1; have := HB.out.len; omega, Below.refl _ _⟩⟩
  case round =>
    obtain ⟨i, j, hij, hjn, rfl, rfl, hh⟩ := hrel
    by_cases hlt : i < j
    · have hm : (i + j) / 2 < n := by omega
      have HE2 : Hid (((i : Int) + (j : Int)) / 2 = (((i + j) / 2 : Nat) : Int)) := Lib.hid (by omega)
      obtain ⟨b, o, z, hx, rfl, hb, e0, e1, e2, e3⟩ := (HB.out.go hh.out.2.2).bo (i := (i + j) / 2) hm
      have HX := Lib.hid hx
      have HM : Hid (i ≤ (i + j) / 2 ∧ (i + j) / 2 < j) := Lib.hid (by omega)
      have hi0 : (0 : Int) ≤ ((i : Int) + (j : Int)) / 2 := by omega
      have hi1 : ((i : Int) + (j : Int)) / 2 < (n : Int) := by omega
      have HCP := Lib.hid (fun W => cmpHo_any z x W)
      clear hx
      by_cases hoff : z.h < x
      · rw [show cmpI z.h x = -1 by simp [cmpI, hoff]] at HCP
        go_wp2_with fail
        refine (HCP.out _).mono ?_
        rintro e w7 ⟨rfl, hq⟩
        have HQ := Lib.hid hq
        clear hq HCP e0 e1 e2 e3
        go_wp2
        go_roundw
        case rel => exact ⟨(i + j) / 2 + 1, j, by omega, hjn, by rw [HE2.out]; go_num, rfl, Lib.hid ⟨asc_lo HV.out HX.out hoff, hh.out.2.1, Below.then hh.out.2.2 HQ.out (Nat.le_refl _)⟩⟩
        case measure => simp [intOf]; omega
      · have hoff' : ¬ cmpI z.h x < 0 := by
          unfold cmpI
          rw [if_neg hoff]
          split <;> omega
        have HO := Lib.hid hoff
        generalize cmpI z.h x = r at *
        have hd : decide (r < 0) = false := decide_eq_false hoff'
        go_wp2_with fail
        refine (HCP.out _).mono ?_
        rintro e w7 ⟨rfl, hq⟩
        have HQ := Lib.hid hq
        clear hq HCP e0 e1 e2 e3
        go_wp2
        go_roundw
        case rel => exact ⟨i, (i + j) / 2, HM.out.1, by omega, rfl, by rw [HE2.out], Lib.hid ⟨hh.out.1, asc_hi HV.out HX.out (by have := HO.out; omega), Below.then hh.out.2.2 HQ.out (Nat.le_refl _)⟩⟩
        case measure => simp [intOf]; omega
    · obtain rfl : i = j := by omega
      have HLB : Hid (Lbo l x i) := Lib.hid ⟨by have := HB.out.len; omega, hh.out.1, hh.out.2.1⟩
      have HBB := Lib.hid hh.out.2.2
      by_cases hin : i < n
      · obtain ⟨b, o, z, hx, rfl, hb, e0, e1, e2, e3⟩ := (HB.out.go hh.out.2.2).bo (i := i) hin
        have HX := Lib.hid hx
        have HCP := Lib.hid (fun W => cmpHo_any z x W)
        have hi0 : (0 : Int) ≤ (i : Int) := by omega
        have hi1 : (i : Int) < (n : Int) := by omega
        have hdi : decide ((i : Int) < (n : Int)) = true := decide_eq_true hi1
        have HR : Hid ((cmpI z.h x == 0) = true ↔ ∃ z, l[i]? = some z ∧ z.h = x) := Lib.hid (by
          have hu : x ≤ z.h := HLB.out.hi i z (Nat.le_refl _) hx
          rw [hx]
          simp only [Option.some.injEq, exists_eq_left']
          unfold cmpI
          rw [if_neg (by omega)]
          split
          · simp; omega
          · simp; omega)
        generalize cmpI z.h x = r at *
        clear hx hh hb
        go_wp2_with fail
        refine (HCP.out _).mono ?_
        rintro e w7 ⟨rfl, hq⟩
        have HQ := Lib.hid (Below.then HBB.out hq (Nat.le_refl _))
        clear hq HCP e0 e1 e2 e3
        go_wp2
        go_ret2
        exact ⟨i, _, rfl, HLB.out, HR.out, HQ.out⟩
      · have hin' : ¬ (i : Int) < (n : Int) := by omega
        have hdi : decide ((i : Int) < (n : Int)) = false := decide_eq_false hin'
        have HR : Hid (false = true ↔ ∃ z, l[i]? = some z ∧ z.h = x) := Lib.hid (by
          rw [List.getElem?_eq_none (by have := HB.out.len; omega)]
          simp)
        clear hh
        go_wp2
        go_ret2
        exact ⟨i, _, rfl, HLB.out, HR.out, HBB.out⟩
theorem find_any (A : Option Addr) (n c : Nat) (l : List Bo) (x : Int) (w : World) (h : Kws bo4 w w.heap.size A n c l) (hn : n ≤ 1000000) (hv : l.Pairwise fun a b => a.h < b.h) :
    Calls Try.prog 35 #[.slice A n c, .int .i64 x] w (FoundB w l x) := by
  have H := Lib.hid (bsearch_any A n c l x w h hn hv)
  clear h hv
  go_enter Try.func35, Try.ntmps35
  go_wp2_with fail
  refine H.out.mono ?_
  rintro e w1 ⟨i, f, rfl, h1, h2, h3⟩
  have H1 := Lib.hid h1
  have H2 := Lib.hid h2
  have H3 := Lib.hid h3
  clear H h1 h2 h3
  go_wp2
  go_ret2
  exact ⟨i, f, rfl, H1.out, H2.out, H3.out⟩
end Go.Proofs.Ytmmlelmkgnhofaa
