/-
  Contracts of the laws' step of layer 7, of a run of steps, of the comparison with the model, and of the chapter's example. Conditions: at most eight hundred extents.
-/
import Derived.Test.YtfchccgajcjbbaaSpA
import Derived.Test.YtfchccgajcjbbaaSpF
import Derived.Test.YtfchccgajcjbbaaSpW
import Derived.Test.YtfchccgajcjbbaaHex
import Derived.BigRegion
import Derived.Deep.RegionWith
namespace Go.Proofs.Ytfchccgajcjbbaa
open Go.ChangeShapes Go.WideShapes Go.ChangeAt Go.RowKit
set_option maxHeartbeats 8000000
set_option maxRecDepth 100000

theorem step_any (x0 x1 x2 x3 x4 x5 : Int) (w : World) (c : Nat → Nat) (a p g q g2 : Nat) (F A U : List (Int × Int)) (bs : List Int) (h : Sr w c a p g q g2 F A U bs) (hU : U.length ≤ 800) (hx : ∀ x ∈ [x0, x1, x2, x3, x4, x5], 0 ≤ x ∧ x ≤ 255) :
    Calls Try.prog 33 #[.pointer (some ⟨a, 0, none⟩), .pointer (some ⟨q, 0, none⟩), .agg #[.int .u8 x0, .int .u8 x1, .int .u8 x2, .int .u8 x3, .int .u8 x4, .int .u8 x5]] w (StE w c a p g q g2 U bs.length) := by
  have h0 := hx x0 (by simp)
  have h9 : x0 % 9 = 0 ∨ x0 % 9 = 1 ∨ x0 % 9 = 2 ∨ x0 % 9 = 3 ∨ x0 % 9 = 4 ∨ x0 % 9 = 5 ∨ x0 % 9 = 6 ∨ x0 % 9 = 7 ∨ x0 % 9 = 8 := by omega
  rcases h9 with h9 | h9 | h9 | h9 | h9 | h9 | h9 | h9 | h9
  · exact step_alloc0 x0 x1 x2 x3 x4 x5 w c a p g q g2 F A U bs h hU hx h9
  · exact step_alloc1 x0 x1 x2 x3 x4 x5 w c a p g q g2 F A U bs h hU hx h9
  · exact step_alloc2 x0 x1 x2 x3 x4 x5 w c a p g q g2 F A U bs h hU hx h9
  · exact step_free x0 x1 x2 x3 x4 x5 w c a p g q g2 F A U bs h hU hx h9
  · exact step_store x0 x1 x2 x3 x4 x5 w c a p g q g2 F A U bs h hU hx h9
  · exact step_load x0 x1 x2 x3 x4 x5 w c a p g q g2 F A U bs h hU hx h9
  · exact step_write x0 x1 x2 x3 x4 x5 w c a p g q g2 F A U bs h hU hx h9
  · exact step_read x0 x1 x2 x3 x4 x5 w c a p g q g2 F A U bs h hU hx h9
  · exact step_copy x0 x1 x2 x3 x4 x5 w c a p g q g2 F A U bs h hU hx h9

/-- What a run of steps says. -/
def BuE (w : World) (n : Nat) (e : Ending) (w' : World) : Prop :=
  ∃ c a p g q g2 F A U bs, e = .returned (.tuple #[.pointer (some ⟨a, 0, none⟩), .pointer (some ⟨q, 0, none⟩), .bool true]) ∧ Sr w' c a p g q g2 F A U bs ∧ bs.length = n ∧ U.length ≤ 30 ∧ Below w.heap.size w w' ∧ ∀ x, x < w.heap.size → c x = 0
theorem built_any (r : Int) (At : Option Addr) (m ct : Nat) (w : World) (hr : 0 ≤ r ∧ r ≤ 255) (ht : Hex w w.heap.size At m ct) :
    Calls Try.prog 10 #[.int .u8 r, .slice At m ct] w (BuE w (r * 4).toNat) := by
  obtain ⟨r0, r1⟩ := hr
  have HT := Lib.hid ht
  have hcap := ht.cap
  have hsm := ht.small
  unfold maxLen at hsm
  obtain ⟨n, hn⟩ : ∃ n : Nat, r * 4 = n := ⟨(r * 4).toNat, by omega⟩
  have hn1 : n ≤ 1020 := by omega
  have HN : Hid ((r * 4).toNat = n) := Lib.hid (by omega)
  rw [HN.out]
  have H := Lib.hid (fun W => newA_ok (fun _ => 0) n W (by omega))
  have H2 := Lib.hid (fun c W => newM_any c n W (by omega))
  clear ht HN
  go_enter Try.func10, Try.ntmps10
  go_wp2_with fail
  refine (H.out w).mono ?_
  rintro e w1 ⟨c1, a, p, g, rfl, ha, hb, hc, _⟩
  have HA1 := Lib.hid ha
  have HB1 := Lib.hid hb
  have HC1 := Lib.hid hc
  clear H ha hb hc
  go_wp2_with fail
  refine (H2.out c1 w1).mono ?_
  rintro e w2 ⟨c2, q, g2, rfl, hm, hb, hc, _⟩
  have HB2 := Lib.hid (Below.then HB1.out hb (Nat.le_refl _))
  have HC2 : Hid (∀ x, x < w.heap.size → c2 x = 0) := Lib.hid (fun x hx => by
    have := HB1.out.size
    rw [hc x (by omega)]; exact HC1.out x hx)
  have HS2 : Hid (Sr w2 c2 a p g q g2 (cmp 0 [] n) [] [] (List.replicate n 0)) := Lib.hid ⟨(HA1.out.recol hc).go hb, hm, by simpa using gd_new (n := (n : Int)) (by omega) (by omega), List.Perm.refl _, fun i _ => by
    by_cases hi : i < n
    · simp [List.getD, hi]
    · simp [List.getD, hi]⟩
  clear H2 hm hb hc HA1 HB1 HC1 hn
  go_wp2
  go_loopw [11] (fun iv wr => ∃ (i : Nat), i ≤ m ∧ i ≤ 30 ∧ iv = .int .i64 i ∧ Hid ((∃ c F A U bs, Sr wr c a p g q g2 F A U bs ∧ bs.length = n ∧ U.length ≤ i ∧ ∀ x, x < w.heap.size → c x = 0) ∧ Below w.heap.size w wr)) (fun iv _ => 30 - (intOf iv).toNat)
  case atStart => exact ⟨0, by omega, by omega, rfl, Lib.hid ⟨⟨c2, _, _, _, _, HS2.out, by simp, by simp, HC2.out⟩, HB2.out⟩⟩
  case round =>
    obtain ⟨i, him, hi30, rfl, hh⟩ := hrel
    by_cases hlt : i < m
    · have hlt' : (i : Int) < (m : Int) := by omega
      by_cases h24 : i < 30
      · have h24' : (i : Int) < 30 := by omega
        obtain ⟨⟨c, F, A, U, bs, hst, hl, hu, hc⟩, hB⟩ := hh.out
        obtain ⟨b, o, x0, x1, x2, x3, x4, x5, rfl, hbw, e0, e1, e2, e3, e4, e5, hx⟩ := (HT.out.below hB).cells i hlt
        have HSP := Lib.hid (step_any x0 x1 x2 x3 x4 x5 wr c a p g q g2 F A U bs hst (by omega) hx)
        have HB := Lib.hid hB
        have HCC := Lib.hid hc
        have hWr := hB.size
        have HUL := Lib.hid (And.intro hl hu)
        clear hh hst hu hl hc hB hx
        go_wp2_with fail
        refine HSP.out.mono ?_
        rintro e w3 ⟨rfl, c', F', A', U', bs', hs', hl', hu', hk', hc'⟩
        have HS3 := Lib.hid hs'
        have HU3 : Hid (U'.length ≤ i + 1 ∧ bs'.length = n) := Lib.hid (by have := HUL.out; omega)
        have HB3 : Hid (Below w.heap.size w w3) := Lib.hid (HB.out.trans (hk'.below (fun x hx => by rw [HCC.out x hx]; exact sa_0) hWr))
        have HC3 : Hid (∀ x, x < w.heap.size → c' x = 0) := Lib.hid (fun x hx => (hc' x (by omega)).trans (HCC.out x hx))
        clear hs' hu' hl' hk' hc' HSP e0 e1 e2 e3 e4 e5
        go_wp2
        go_roundw
        case rel => exact ⟨i + 1, by omega, by omega, by go_num, Lib.hid ⟨⟨c', F', A', U', bs', HS3.out, HU3.out.2, HU3.out.1, HC3.out⟩, HB3.out⟩⟩
        case measure => simp [intOf]; omega
      · have h24' : ¬ (i : Int) < 30 := by omega
        have d1 : decide ((i : Int) < 30) = false := decide_eq_false h24'
        obtain ⟨⟨c, F, A, U, bs, hst, hl, hu, hc⟩, hB⟩ := hh.out
        have HF := Lib.hid (show BuE w n (.returned (.tuple #[.pointer (some ⟨a, 0, none⟩), .pointer (some ⟨q, 0, none⟩), .bool true])) wr from ⟨c, a, p, g, q, g2, F, A, U, bs, rfl, hst, hl, by omega, hB, hc⟩)
        clear hh hst hu hl hc hB
        go_wp2
        go_ret3
        exact HF.out
    · have hlt' : ¬ (i : Int) < (m : Int) := by omega
      have d1 : decide ((i : Int) < (m : Int)) = false := decide_eq_false hlt'
      obtain ⟨⟨c, F, A, U, bs, hst, hl, hu, hc⟩, hB⟩ := hh.out
      have HF := Lib.hid (show BuE w n (.returned (.tuple #[.pointer (some ⟨a, 0, none⟩), .pointer (some ⟨q, 0, none⟩), .bool true])) wr from ⟨c, a, p, g, q, g2, F, A, U, bs, rfl, hst, hl, by omega, hB, hc⟩)
      clear hh hst hu hl hc hB
      go_wp2
      go_ret3
      exact HF.out
end Go.Proofs.Ytfchccgajcjbbaa
