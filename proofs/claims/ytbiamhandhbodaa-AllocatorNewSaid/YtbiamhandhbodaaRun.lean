/-
  Contracts of the laws' run over any steps and of the chapter's example. No conditions beyond those that each lemma states.
-/
import Derived.Test.YtbiamhandhbodaaStpF
import Derived.Test.YtbiamhandhbodaaTri
namespace Go.Proofs.Ytbiamhandhbodaa
open Go.ChangeShapes Go.WideShapes Go.ChangeAt Go.RowKit
set_option maxHeartbeats 8000000
set_option maxRecDepth 100000

/-- A new allocator beside a new model. -/
theorem st_new {w w1 : World} {p : Nat} {n : Int} (h0 : 0 ≤ n) (h1 : n ≤ 1048576) (hb : Below w.heap.size w w1) (ha : ∀ c k, Alc w1 (rc c w.heap.size k) k p (cmp 0 [] n) []) :
    ∃ c, St (w1.alloc (.cells #[.int .i64 n, .slice none 0 0] 31)) c p w1.heap.size n (cmp 0 [] n) [] [] [] (.slice none 0 0) ∧ ∀ g, g < w.heap.size → c g = 0 := by
  refine ⟨rc (rc (fun _ => 0) w.heap.size 1) w1.heap.size 2, ⟨((ha (fun _ => 0) 1).recol (fun g hg => rc_old hg)).go ((Below.refl _ _).alloc (Nat.le_refl _) _), ⟨.slice none 0 0, heap_alloc_new w1 _, OwnE.nil _ _ _, rc_new (Nat.le_refl _), fun g hg => by cases hg⟩, gd_new h0 h1, List.Perm.refl _, OwnE.nil _ _ _, (fun g hg => by cases hg), fun x hx => by cases hx⟩, fun g hg => ?_⟩
  have := hb.size
  rw [rc_old (by omega), rc_old hg]
def RunE (w : World) (n : Int) (e : Ending) (w' : World) : Prop :=
  ∃ (c : Nat → Nat) (p : Nat) (F A : List (Int × Int)), e = .returned (.tuple #[.pointer (some ⟨p, 0, none⟩), .bool true]) ∧ Alc w' c 1 p F A ∧ Gd n F A ∧ A.length ≤ 24 ∧ Below w.heap.size w w' ∧ ∀ g, g < w.heap.size → c g = 0
theorem runs_any (At : Option Addr) (m ct : Nat) (n : Int) (w : World) (ht : Tri w w.heap.size At m ct) (h0 : 0 ≤ n) (h1 : n ≤ 1048576) :
    Calls Try.prog 20 #[.int .i64 n, .slice At m ct] w (RunE w n) := by
  have H := Lib.hid (new_ok n w h0 h1)
  have HT := Lib.hid ht
  have hcap := ht.cap
  have hsm := ht.small
  unfold maxLen at hsm
  clear ht
  go_enter Try.func20, Try.ntmps20
  go_wp2_with fail
  refine H.out.mono ?_
  rintro e w1 ⟨p, rfl, hp, hb, ha⟩
  obtain ⟨c0, hst, hc0⟩ := st_new h0 h1 hb ha
  have HST := Lib.hid hst
  have HC0 := Lib.hid hc0
  have HB1 := Lib.hid (hb.alloc hb.size (.cells #[.int .i64 n, .slice none 0 0] 31))
  clear H hst hc0 ha hb
  go_wp2
  generalize w1.alloc (.cells #[.int .i64 n, .slice none 0 0] 31) = w2 at *
  generalize w1.heap.size = q at *
  go_loopw [9, 10] (fun sv iv wr => ∃ (i : Nat) (Ae : Option Addr) (ne ce : Nat), i ≤ m ∧ i ≤ 24 ∧ iv = .int .i64 i ∧ sv = .slice Ae ne ce ∧ Hid ((∃ c F A U L, St wr c p q n F A U L (.slice Ae ne ce) ∧ U.length ≤ i ∧ L.length ≤ i ∧ ∀ g, g < w.heap.size → c g = 0) ∧ Below w.heap.size w wr)) (fun _ iv _ => 24 - (intOf iv).toNat)
  case atStart => exact ⟨0, none, 0, 0, by omega, by omega, rfl, rfl, Lib.hid ⟨⟨c0, _, _, _, _, HST.out, by simp, by simp, HC0.out⟩, HB1.out⟩⟩
  case round =>
    obtain ⟨i, Ae, ne, ce, him, hi24, rfl, rfl, hh⟩ := hrel
    by_cases hlt : i < m
    · have hlt' : (i : Int) < (m : Int) := by omega
      by_cases h24 : i < 24
      · have h24' : (i : Int) < 24 := by omega
        obtain ⟨⟨c, F, A, U, L, hst, hu, hl, hc⟩, hB⟩ := hh.out
        obtain ⟨b, o, x, y, z, rfl, hbw, e0, e1, e2, bx, bY, bz⟩ := (HT.out.below hB).cells i hlt
        have HSP := Lib.hid (step_any x y z wr c p q n F A U L Ae ne ce hst (by omega) (by omega) bx bY bz)
        have HB := Lib.hid hB
        have HCC := Lib.hid hc
        have hWr := hB.size
        have HUL := Lib.hid (And.intro hu hl)
        clear hh hst hu hl hc hB
        go_wp2_with fail
        refine HSP.out.mono ?_
        rintro e w3 ⟨c', F', A', U', L', v', rfl, hst', hu', hl', hfr, hc'⟩
        obtain ⟨Ae', ne', ce', rfl, _⟩ := hst'.ev.shape
        have HS3 := Lib.hid hst'
        have HU3 : Hid (U'.length ≤ i + 1 ∧ L'.length ≤ i + 1) := Lib.hid (by have := HUL.out; omega)
        have HB3 : Hid (Below w.heap.size w w3) := Lib.hid (HB.out.trans (hfr.below HCC.out hWr))
        have HC3 : Hid (∀ g, g < w.heap.size → c' g = 0) := Lib.hid (fun g hg => (hc' g (by omega)).trans (HCC.out g hg))
        clear hst' hu' hl' hfr hc' HSP e0 e1 e2
        go_wp2
        go_roundw
        case rel => exact ⟨i + 1, Ae', ne', ce', by omega, by omega, by go_num, rfl, Lib.hid ⟨⟨c', F', A', U', L', HS3.out, HU3.out.1, HU3.out.2, HC3.out⟩, HB3.out⟩⟩
        case measure => simp [intOf]; omega
      · have h24' : ¬ (i : Int) < 24 := by omega
        have d1 : decide ((i : Int) < 24) = false := decide_eq_false h24'
        obtain ⟨⟨c, F, A, U, L, hst, hu, hl, hc⟩, hB⟩ := hh.out
        have HF := Lib.hid (show RunE w n (.returned (.tuple #[.pointer (some ⟨p, 0, none⟩), .bool true])) wr from ⟨c, p, F, A, rfl, hst.al, hst.gd, by have := hst.len; omega, hB, hc⟩)
        clear hh hst hu hl hc hB
        go_wp2
        go_ret2
        exact HF.out
    · have hlt' : ¬ (i : Int) < (m : Int) := by omega
      have d1 : decide ((i : Int) < (m : Int)) = false := decide_eq_false hlt'
      obtain ⟨⟨c, F, A, U, L, hst, hu, hl, hc⟩, hB⟩ := hh.out
      have HF := Lib.hid (show RunE w n (.returned (.tuple #[.pointer (some ⟨p, 0, none⟩), .bool true])) wr from ⟨c, p, F, A, rfl, hst.al, hst.gd, by have := hst.len; omega, hB, hc⟩)
      clear hh hst hu hl hc hB
      go_wp2
      go_ret2
      exact HF.out
/-- One allocation, with its numbers. -/
def AtE (w : World) (c : Nat → Nat) (p : Nat) (n : Int) (F' : List (Int × Int)) (B : List (Int × Int)) (x s : Int) (e : Ending) (w' : World) : Prop := e = .returned (.tuple #[.agg #[.int .i64 x, .int .i64 s], .int .i64 0]) ∧
  ∃ c' A', Alc w' c' 1 p F' A' ∧ Gd n F' A' ∧ A'.Perm B ∧ Kept c 1 w w' ∧ (∀ g, g < w.heap.size → c' g = c g) ∧ ∀ g, w'.heap.size ≤ g → c' g = 9
theorem alloc_at (w : World) (c : Nat → Nat) (p : Nat) (n z x s : Int) (F F' A : List (Int × Int)) (y : Int × Int) (h : Alc w c 1 p F A) (hv : Gd n F A) (hA : A.length ≤ 800) (he : erR z = 0) (hs : szR z = s) (hb : best s F = some y) (hy : y.1 = x) (hF : rem F (x, s) = F') :
    Calls Try.prog 13 #[.pointer (some ⟨p, 0, none⟩), .int .i64 z] w (AtE w c p n F' (A ++ [(x, s)]) x s) := by
  subst hy hs
  obtain ⟨i, hi⟩ := lb_ex hv y.1
  obtain ⟨g1, g2, g3⟩ := gd_alloc hv hb (sz_ge he) hi
  have hr : chR F z = ((y.1, szR z), 0) := by unfold chR; rw [if_pos he, hb]
  refine (alloc_yes c 1 p i F A n z y.1 (szR z) w h hv (by omega) hr g2 g3 hi).mono ?_
  rintro e w' ⟨rfl, h1, h2⟩
  rw [hF] at h1 g1
  refine ⟨rfl, rc (rc c w.heap.size 1) w'.heap.size 9, _, h1.recol (fun g hg => rc_old hg), g1, perm_put (List.Perm.refl A), h2, fun g hg => ?_, fun g hg => rc_new hg⟩
  have := h2.size
  rw [rc_old (by omega), rc_old hg]
theorem szR_20 : szR 20 = 32 := szR_is (k := 1) (by decide) (by decide) ⟨by decide, by decide⟩
theorem szR_16 : szR 16 = 16 := szR_is (k := 0) (by decide) (by decide) ⟨by decide, by decide⟩
theorem szR_1 : szR 1 = 16 := szR_is (k := 0) (by decide) (by decide) ⟨by decide, by decide⟩
theorem awake6_any (w : World) : Calls Try.prog 12 #[] w (Tell w true) := by
  have H := Lib.hid (new_ok 64 w (by omega) (by omega))
  rw [show cmp 0 [] 64 = [(0, 64)] by decide] at H
  go_enter Try.func12, Try.ntmps12
  go_wp2_with fail
  refine H.out.mono ?_
  rintro e w1 ⟨p, rfl, hp, hb, ha⟩
  have HB := Lib.hid hb
  have HA := Lib.hid ((ha (fun _ => 0) 1).recol (c' := rc (rc (fun _ => 0) w.heap.size 1) w1.heap.size 9) (fun g hg => rc_old hg))
  have HG : Hid (Gd 64 [(0, 64)] []) := Lib.hid (by have := gd_new (n := 64) (by omega) (by omega); rwa [show cmp 0 [] 64 = [(0, 64)] by decide] at this)
  have hwz := hb.size
  have HC : Hid ((∀ g, g < w.heap.size → rc (rc (fun _ => 0) w.heap.size 1) w1.heap.size 9 g = 0) ∧ ∀ g, w1.heap.size ≤ g → rc (rc (fun _ => 0) w.heap.size 1) w1.heap.size 9 g = 9) := Lib.hid ⟨fun g hg => by rw [rc_old (by omega), rc_old hg], fun g hg => rc_new hg⟩
  generalize rc (rc (fun _ => 0) w.heap.size 1) w1.heap.size 9 = c1 at *
  clear H ha hb
  -- x
  go_wp2_with fail
  refine (alloc_at w1 c1 p 64 20 0 32 [(0, 64)] [(32, 32)] [] (0, 64) HA.out HG.out (by simp) rfl szR_20 (by decide) rfl (by decide)).mono ?_
  rintro e w2 ⟨rfl, c2, A2, ha2, hg2, hp2, hk2, hc2, hd2⟩
  have HK2 := Lib.hid (Below.trans HB.out (hk2.below (B := w.heap.size) (fun g hg => by rw [HC.out.1 g hg]; omega) hwz))
  have hz2 := hk2.size
  have HC2 : Hid ((∀ g, g < w.heap.size → c2 g = 0) ∧ ∀ g, w2.heap.size ≤ g → c2 g = 9) := Lib.hid ⟨fun g hg => (hc2 g (by omega)).trans (HC.out.1 g hg), hd2⟩
  have hbx : Below w2.heap.size w2 (w2.alloc (.cells #[.int .i64 0, .int .i64 32] 39)) := (Below.refl _ _).alloc (Nat.le_refl _) _
  have HX := Lib.hid (Box.new (w := w2) (x := 0) (y := 32))
  have HA2 := Lib.hid (ha2.go hbx)
  have HG2 := Lib.hid hg2
  have HP2 := Lib.hid hp2
  have HB2 := Lib.hid (Below.then HK2.out hbx (by omega))
  have hl2 : A2.length = 1 := by rw [hp2.length_eq]; rfl
  clear ha2 hg2 hp2 hk2 hc2 hd2 hbx HK2 HA HG HC HB
  go_wp2_with fail
  generalize w2.alloc (.cells #[.int .i64 0, .int .i64 32] 39) = w3 at *
  have hz3 : w2.heap.size < w3.heap.size := HX.out.lt
  -- y
  refine (alloc_at w3 c2 p 64 16 32 16 [(32, 32)] [(48, 16)] A2 (32, 32) HA2.out HG2.out (by omega) rfl szR_16 (by decide) rfl (by decide)).mono ?_
  rintro e w4 ⟨rfl, c4, A4, ha4, hg4, hp4, hk4, hc4, hd4⟩
  have HK4 := Lib.hid (Below.trans HB2.out (hk4.below (B := w.heap.size) (fun g hg => by rw [HC2.out.1 g hg]; omega) (by omega)))
  have hz4 := hk4.size
  have HX4 : Hid (Box w4 w2.heap.size 0 32) := Lib.hid ((hk4.block _ hz3 (by rw [HC2.out.2 _ (Nat.le_refl _)]; omega)).trans HX.out)
  have HC4 : Hid ((∀ g, g < w.heap.size → c4 g = 0) ∧ (∀ g, w4.heap.size ≤ g → c4 g = 9) ∧ c4 w2.heap.size = 9) := Lib.hid ⟨fun g hg => (hc4 g (by omega)).trans (HC2.out.1 g hg), hd4, (hc4 _ hz3).trans (HC2.out.2 _ (Nat.le_refl _))⟩
  have hby : Below w4.heap.size w4 (w4.alloc (.cells #[.int .i64 32, .int .i64 16] 39)) := (Below.refl _ _).alloc (Nat.le_refl _) _
  have HY := Lib.hid (Box.new (w := w4) (x := 32) (y := 16))
  have HX5 := Lib.hid (HX4.out.go hby)
  have HA4 := Lib.hid (ha4.go hby)
  have HG4 := Lib.hid hg4
  have HP4 := Lib.hid (hp4.trans (HP2.out.append_right _))
  have HB4 := Lib.hid (Below.then HK4.out hby (by omega))
  have hl4 : A4.length = 2 := by rw [hp4.length_eq]; simp [hl2]
  clear ha4 hg4 hp4 hk4 hc4 hd4 hby HK4 HA2 HG2 HC2 HB2 HX HX4 HP2
  go_wp2_with fail
  generalize w4.alloc (.cells #[.int .i64 32, .int .i64 16] 39) = w5 at *
  have hz5 : w4.heap.size < w5.heap.size := HY.out.lt
  -- z
  refine (alloc_at w5 c4 p 64 16 48 16 [(48, 16)] [] A4 (48, 16) HA4.out HG4.out (by omega) rfl szR_16 (by decide) rfl (by decide)).mono ?_
  rintro e w6 ⟨rfl, c6, A6, ha6, hg6, hp6, hk6, hc6, hd6⟩
  have HK6 := Lib.hid (Below.trans HB4.out (hk6.below (B := w.heap.size) (fun g hg => by rw [HC4.out.1 g hg]; omega) (by omega)))
  have hz6 := hk6.size
  have HX6 : Hid (Box w6 w2.heap.size 0 32) := Lib.hid ((hk6.block _ (by omega) (by rw [HC4.out.2.2]; omega)).trans HX5.out)
  have HY6 : Hid (Box w6 w4.heap.size 32 16) := Lib.hid ((hk6.block _ hz5 (by rw [HC4.out.2.1 _ (Nat.le_refl _)]; omega)).trans HY.out)
  have HC6 : Hid ((∀ g, g < w.heap.size → c6 g = 0) ∧ (∀ g, w6.heap.size ≤ g → c6 g = 9) ∧ c6 w2.heap.size = 9 ∧ c6 w4.heap.size = 9) := Lib.hid ⟨fun g hg => (hc6 g (by omega)).trans (HC4.out.1 g hg), hd6, (hc6 _ (by omega)).trans HC4.out.2.2, (hc6 _ hz5).trans (HC4.out.2.1 _ (Nat.le_refl _))⟩
  have hbz : Below w6.heap.size w6 (w6.alloc (.cells #[.int .i64 48, .int .i64 16] 39)) := (Below.refl _ _).alloc (Nat.le_refl _) _
  have HZ := Lib.hid (Box.new (w := w6) (x := 48) (y := 16))
  have HX7 := Lib.hid (HX6.out.go hbz)
  have HY7 := Lib.hid (HY6.out.go hbz)
  have HA6 := Lib.hid (ha6.go hbz)
  have HG6 := Lib.hid hg6
  have HP6 := Lib.hid (hp6.trans (HP4.out.append_right _))
  have HB6 := Lib.hid (Below.then HK6.out hbz (by omega))
  have hl6 : A6.length = 3 := by rw [hp6.length_eq]; simp [hl4]
  clear ha6 hg6 hp6 hk6 hc6 hd6 hbz HK6 HA4 HG4 HC4 HB4 HX5 HX6 HY HY6 HP4
  have e0 := HX7.out.cell0
  have e1 := HX7.out.cell1
  go_wp2_with fail
  generalize w6.alloc (.cells #[.int .i64 48, .int .i64 16] 39) = w7 at *
  have hz7 : w6.heap.size < w7.heap.size := HZ.out.lt
  -- the first one is freed
  obtain ⟨i, hi⟩ : ∃ i : Nat, A6[i]? = some (0, 32) := List.mem_iff_getElem?.1 (HP6.out.mem_iff.2 (by simp))
  have HG8 := Lib.hid (gd_free HG6.out hi).1
  have hl8 : (A6.take i ++ A6.drop (i + 1)).length ≤ 3 := by rw [List.length_append, List.length_take, List.length_drop]; omega
  rw [show ins [] (0, 32) = [(0, 32)] by decide] at HG8
  refine (free_yes c6 1 p i [] A6 64 0 32 w7 HA6.out HG6.out (by omega) hi).mono ?_
  rintro e w8 ⟨rfl, ha8, hk8⟩
  rw [show ins [] (0, 32) = [(0, 32)] by decide] at ha8
  generalize A6.take i ++ A6.drop (i + 1) = A8 at *
  have HK8 := Lib.hid (Below.trans HB6.out (hk8.below (B := w.heap.size) (fun g hg => by rw [HC6.out.1 g hg]; omega) (by omega)))
  have hz8 := hk8.size
  have HX8 : Hid (Box w8 w2.heap.size 0 32) := Lib.hid ((hk8.block _ (by omega) (by rw [HC6.out.2.2.1]; omega)).trans HX7.out)
  have HY8 : Hid (Box w8 w4.heap.size 32 16) := Lib.hid ((hk8.block _ (by omega) (by rw [HC6.out.2.2.2]; omega)).trans HY7.out)
  have HZ8 : Hid (Box w8 w6.heap.size 48 16) := Lib.hid ((hk8.block _ hz7 (by rw [HC6.out.2.1 _ (Nat.le_refl _)]; omega)).trans HZ.out)
  have HA8 := Lib.hid (ha8.recol (c' := rc (rc c6 w7.heap.size 1) w8.heap.size 9) (fun g hg => rc_old hg))
  have HC8 : Hid ((∀ g, g < w.heap.size → rc (rc c6 w7.heap.size 1) w8.heap.size 9 g = 0) ∧ (∀ g, w8.heap.size ≤ g → rc (rc c6 w7.heap.size 1) w8.heap.size 9 g = 9) ∧ rc (rc c6 w7.heap.size 1) w8.heap.size 9 w2.heap.size = 9 ∧ rc (rc c6 w7.heap.size 1) w8.heap.size 9 w4.heap.size = 9 ∧ rc (rc c6 w7.heap.size 1) w8.heap.size 9 w6.heap.size = 9) :=
    Lib.hid ⟨fun g hg => by rw [rc_old (by omega), rc_old (by omega)]; exact HC6.out.1 g hg, fun g hg => rc_new hg, by rw [rc_old (by omega), rc_old (by omega)]; exact HC6.out.2.2.1, by rw [rc_old (by omega), rc_old (by omega)]; exact HC6.out.2.2.2, by rw [rc_old (by omega), rc_old (by omega)]; exact HC6.out.2.1 _ (Nat.le_refl _)⟩
  generalize rc (rc c6 w7.heap.size 1) w8.heap.size 9 = c8 at *
  clear ha8 hk8 hi HA6 HG6 HC6 HB6 HX7 HY7 HZ e0 e1 HP6
  go_wp2_with fail
  refine (alloc_at w8 c8 p 64 1 0 16 [(0, 32)] [(16, 16)] A8 (0, 32) HA8.out HG8.out (by omega) rfl szR_1 (by decide) rfl (by decide)).mono ?_
  rintro e w9 ⟨rfl, c9, A9, ha9, hg9, hp9, hk9, hc9, hd9⟩
  have HK9 := Lib.hid (Below.trans HK8.out (hk9.below (B := w.heap.size) (fun g hg => by rw [HC8.out.1 g hg]; omega) (by omega)))
  have HX9 : Hid (Box w9 w2.heap.size 0 32) := Lib.hid ((hk9.block _ HX8.out.lt (by rw [HC8.out.2.2.1]; omega)).trans HX8.out)
  have HY9 : Hid (Box w9 w4.heap.size 32 16) := Lib.hid ((hk9.block _ HY8.out.lt (by rw [HC8.out.2.2.2.1]; omega)).trans HY8.out)
  have HZ9 : Hid (Box w9 w6.heap.size 48 16) := Lib.hid ((hk9.block _ HZ8.out.lt (by rw [HC8.out.2.2.2.2]; omega)).trans HZ8.out)
  have hbv : Below w9.heap.size w9 (w9.alloc (.cells #[.int .i64 0, .int .i64 16] 39)) := (Below.refl _ _).alloc (Nat.le_refl _) _
  have HB10 := Lib.hid (Below.then HK9.out hbv (by have := HK9.out.size; omega))
  have e0 := (HX9.out.go hbv).cell0
  have e1 := (HX9.out.go hbv).cell1
  have e2 := (HY9.out.go hbv).cell0
  have e3 := (HY9.out.go hbv).cell1
  have e4 := (HZ9.out.go hbv).cell0
  have e5 := (HZ9.out.go hbv).cell1
  clear ha9 hg9 hp9 hk9 hc9 hd9 hbv HK9 HK8 HA8 HG8 HC8
  go_wp2
  go_ret
  exact ⟨rfl, HB10.out⟩
end Go.Proofs.Ytbiamhandhbodaa
