/-
  The law AllocatorPlays as a walk: it returns true and changes nothing that was there. No conditions.
-/
import Derived.Test.YtbiamhandhbodaaRun
namespace Go.Proofs.Ytbiamhandhbodaa
open Go.ChangeShapes Go.WideShapes Go.ChangeAt Go.RowKit
set_option maxHeartbeats 8000000
set_option maxRecDepth 100000

theorem allocatorPlays_walk (r : Int) (At : Option Addr) (m ct : Nat) (w : World) (hr : (Lit.int .u16 r).wf = true) (ht : Tri w w.heap.size At m ct) :
    Calls Try.prog 3 #[.int .u16 r, .slice At m ct] w fun e w' => e = .returned (.bool true) ∧ Below w.heap.size w w' := by
  have hr1 := Go.bounds_u16 hr
  have hn0 : 0 ≤ r % 2000 := by omega
  have hn1 : r % 2000 ≤ 1048576 := by omega
  have hn2 : r % 2000 < 2000 := by omega
  have H := Lib.hid (new_ok (r % 2000) w hn0 hn1)
  have HT := Lib.hid ht
  have hcap := ht.cap
  have hsm := ht.small
  unfold maxLen at hsm
  clear ht hr
  go_enter Try.func3, Try.ntmps3
  go_wp2_with fail
  generalize r % 2000 = n at *
  refine H.out.mono ?_
  rintro e w1 ⟨p, rfl, hp, hb, ha⟩
  obtain ⟨c0, hst, hc0⟩ := st_new hn0 hn1 hb ha
  have HST := Lib.hid hst
  have HC0 := Lib.hid hc0
  have HB1 := Lib.hid (hb.alloc hb.size (.cells #[.int .i64 n, .slice none 0 0] 31))
  clear H hst hc0 ha hb
  go_wp2_with fail
  generalize w1.alloc (.cells #[.int .i64 n, .slice none 0 0] 31) = w2 at *
  generalize w1.heap.size = q at *
  refine (alike_any w2 c0 p q n _ _ _ HST.out.al HST.out.mo HST.out.gd HST.out.pm (by simp)).mono ?_
  rintro e w3 ⟨rfl, hb3⟩
  have HST3 := Lib.hid (HST.out.go hb3)
  have HB3 := Lib.hid (Below.then HB1.out hb3 (by have := HB1.out.size; omega))
  clear hb3 HST HB1
  go_wp2
  go_loopw [9, 10] (fun sv iv wr => ∃ (i : Nat) (Ae : Option Addr) (ne ce : Nat), i ≤ m ∧ i ≤ 24 ∧ iv = .int .i64 i ∧ sv = .slice Ae ne ce ∧ Hid ((∃ c F A U L, St wr c p q n F A U L (.slice Ae ne ce) ∧ U.length ≤ i ∧ L.length ≤ i ∧ ∀ g, g < w.heap.size → c g = 0) ∧ Below w.heap.size w wr)) (fun _ iv _ => 24 - (intOf iv).toNat)
  case atStart => exact ⟨0, none, 0, 0, by omega, by omega, rfl, rfl, Lib.hid ⟨⟨c0, _, _, _, _, HST3.out, by simp, by simp, HC0.out⟩, HB3.out⟩⟩
  case round =>
    obtain ⟨i, Ae, ne, ce, him, hi24, rfl, rfl, hh⟩ := hrel
    by_cases hlt : i < m
    · have hlt' : (i : Int) < (m : Int) := by omega
      by_cases h24 : i < 24
      · have h24' : (i : Int) < 24 := by omega
        obtain ⟨⟨c, F, A, U, L, hst, hu, hl, hc⟩, hB⟩ := hh.out
        obtain ⟨b, o, x, y, z, rfl, hbw, e0, e1, e2, bx, bY, bz⟩ := (HT.out.below hB).cells i hlt
        have HSP := Lib.hid (step_any x y z wr c p q n F A U L Ae ne ce hst (by omega) (by omega) bx bY bz)
        have HB := Lib.hid hB
        have HCC := Lib.hid hc
        have hWr := hB.size
        have HUL := Lib.hid (And.intro hu hl)
        clear hh hst hu hl hc hB
        go_wp2_with fail
        refine HSP.out.mono ?_
        rintro e w3 ⟨c', F', A', U', L', v', rfl, hst', hu', hl', hfr, hc'⟩
        obtain ⟨Ae', ne', ce', rfl, _⟩ := hst'.ev.shape
        have HS3 := Lib.hid hst'
        have HU3 : Hid (U'.length ≤ i + 1 ∧ L'.length ≤ i + 1) := Lib.hid (by have := HUL.out; omega)
        have HB3 : Hid (Below w.heap.size w w3) := Lib.hid (HB.out.trans (hfr.below HCC.out hWr))
        have HC3 : Hid (∀ g, g < w.heap.size → c' g = 0) := Lib.hid (fun g hg => (hc' g (by omega)).trans (HCC.out g hg))
        clear hst' hu' hl' hfr hc' HSP e0 e1 e2
        go_wp2
        go_roundw
        case rel => exact ⟨i + 1, Ae', ne', ce', by omega, by omega, by go_num, rfl, Lib.hid ⟨⟨c', F', A', U', L', HS3.out, HU3.out.1, HU3.out.2, HC3.out⟩, HB3.out⟩⟩
        case measure => simp [intOf]; omega
      · have h24' : ¬ (i : Int) < 24 := by omega
        have d1 : decide ((i : Int) < 24) = false := decide_eq_false h24'
        have HF := Lib.hid hh.out.2
        clear hh
        go_wp2_with fail
        refine (awake6_any wr).mono ?_
        rintro e w4 ⟨rfl, hb4⟩
        have HB4 := Lib.hid (Below.then HF.out hb4 (by have := HF.out.size; omega))
        clear hb4
        go_wp2
        go_ret
        exact ⟨rfl, HB4.out⟩
    · have hlt' : ¬ (i : Int) < (m : Int) := by omega
      have d1 : decide ((i : Int) < (m : Int)) = false := decide_eq_false hlt'
      have HF := Lib.hid hh.out.2
      clear hh
      go_wp2_with fail
      refine (awake6_any wr).mono ?_
      rintro e w4 ⟨rfl, hb4⟩
      have HB4 := Lib.hid (Below.then HF.out hb4 (by have := HF.out.size; omega))
      clear hb4
      go_wp2
      go_ret
      exact ⟨rfl, HB4.out⟩
end Go.Proofs.Ytbiamhandhbodaa
