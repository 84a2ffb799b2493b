/-
  Contract of package event's fromNumbers: it says what the plain functions of the text Evp say. Conditions: the numbers are words.
-/
import Derived.Test.YtlgoiccekgjhnaaEve
namespace Go.Proofs.Ytlgoiccekgjhnaa
open Go.ChangeShapes Go.WideShapes Go.RowKit
set_option linter.unusedVariables false
set_option linter.unusedSimpArgs false
set_option maxHeartbeats 4000000
set_option maxRecDepth 100000

/-- The number x where nothing went wrong. -/
def okV (c x : Int) : Int := if c = 0 then x else 0
/-- An event and an error. -/
def EvE (w : World) (c x0 x1 x2 x3 x4 : Int) (e : Ending) (w' : World) : Prop :=
  e = .returned (.tuple #[.agg #[.int .i64 (okV c x0), .int .i64 (okV c x1), .int .u64 (okV c x2), .int .u64 (okV c x3), .int .i64 (okV c x4)], .int .i64 c]) ∧ Below w.heap.size w w'
theorem EvB.set5 {w : World} {t : Nat} {p o h a e : Int} (x : EvB w t p o h a e) (p' o' h' a' e' : Int) :
    EvB (((((w.setCell ⟨t, 0, none⟩ (.int .i64 p')).setCell ⟨t, 1, none⟩ (.int .i64 o')).setCell ⟨t, 2, none⟩ (.int .u64 h')).setCell ⟨t, 3, none⟩ (.int .u64 a')).setCell ⟨t, 4, none⟩ (.int .i64 e')) t p' o' h' a' e' :=
  heap_setCell_same _ t 4 _ _ _ (heap_setCell_same _ t 3 _ _ _ (heap_setCell_same _ t 2 _ _ _ (heap_setCell_same _ t 1 _ _ _ (heap_setCell_same _ t 0 _ _ _ x))))
theorem Below.sets5 {B t : Nat} {w w' : World} (hb : Below B w w') (ht : B ≤ t) (p' o' h' a' e' : Int) :
    Below B w (((((w'.setCell ⟨t, 0, none⟩ (.int .i64 p')).setCell ⟨t, 1, none⟩ (.int .i64 o')).setCell ⟨t, 2, none⟩ (.int .u64 h')).setCell ⟨t, 3, none⟩ (.int .u64 a')).setCell ⟨t, 4, none⟩ (.int .i64 e')) :=
  (((((hb.setCell (p := ⟨t, 0, none⟩) ht _).setCell (p := ⟨t, 1, none⟩) ht _).setCell (p := ⟨t, 2, none⟩) ht _).setCell (p := ⟨t, 3, none⟩) ht _).setCell (p := ⟨t, 4, none⟩) ht _)
theorem fromNumbers_any (x0 x1 x2 x3 x4 : Int) (w : World) (h0 : 0 ≤ x0 ∧ x0 < 18446744073709551616) (h1 : 0 ≤ x1 ∧ x1 < 18446744073709551616) (h2 : 0 ≤ x2 ∧ x2 < 18446744073709551616) (h3 : 0 ≤ x3 ∧ x3 < 18446744073709551616) (h4 : 0 ≤ x4 ∧ x4 < 18446744073709551616) :
    Calls Try.prog 72 #[.agg #[.int .u64 x0, .int .u64 x1, .int .u64 x2, .int .u64 x3, .int .u64 x4]] w (EvE w (chkV x0 x1 x4) x0 x1 x2 x3 x4) := by
  obtain ⟨a0, b0⟩ := h0
  obtain ⟨a1, b1⟩ := h1
  obtain ⟨a2, b2⟩ := h2
  obtain ⟨a3, b3⟩ := h3
  obtain ⟨a4, b4⟩ := h4
  have hb0 : Below w.heap.size w (((w.alloc (.cells #[.int .u64 x0, .int .u64 x1, .int .u64 x2, .int .u64 x3, .int .u64 x4] 108)).alloc (.cells #[.int .i64 0, .int .i64 0, .int .u64 0, .int .u64 0, .int .i64 0] 27))) := ((Below.refl _ _).alloc (Nat.le_refl _) _).alloc (by simp) _
  have HB1 := Lib.hid hb0
  have hs0 : (w.alloc (.cells #[.int .u64 x0, .int .u64 x1, .int .u64 x2, .int .u64 x3, .int .u64 x4] 108)).heap.size = w.heap.size + 1 := by simp
  have hr1 : EvB (((w.alloc (.cells #[.int .u64 x0, .int .u64 x1, .int .u64 x2, .int .u64 x3, .int .u64 x4] 108)).alloc (.cells #[.int .i64 0, .int .i64 0, .int .u64 0, .int .u64 0, .int .i64 0] 27))) (w.heap.size + 1) 0 0 0 0 0 := by
    have := EvB.new (w := w.alloc (.cells #[.int .u64 x0, .int .u64 x1, .int .u64 x2, .int .u64 x3, .int .u64 x4] 108)) (p := 0) (o := 0) (h := 0) (a := 0) (e := 0)
    rwa [hs0] at this
  have HR1 := Lib.hid hr1
  have HEE : Hid (∀ (W : World), Below w.heap.size w W → EvE w (chkV x0 x1 x4) x0 x1 x2 x3 x4 (.returned (.tuple #[.agg #[.int .i64 (okV (chkV x0 x1 x4) x0), .int .i64 (okV (chkV x0 x1 x4) x1), .int .u64 (okV (chkV x0 x1 x4) x2), .int .u64 (okV (chkV x0 x1 x4) x3), .int .i64 (okV (chkV x0 x1 x4) x4)], .int .i64 (chkV x0 x1 x4)])) W) := Lib.hid (fun W h => ⟨rfl, h⟩)
  have HK : Hid (2147483647 < x0 ∨ 2147483647 < x1 ∨ 2147483647 < x4 → chkV x0 x1 x4 = 1) := Lib.hid (fun h => chk_no (fun h' => by
    have := op_bd h'.2.2.1
    omega))
  have HC := Lib.hid (fun W => check_any x0 x1 x2 x3 x4 W)
  have HO : Hid (∀ x, okV 0 x = x) := Lib.hid (fun x => rfl)
  have HN : Hid (∀ c x, c ≠ 0 → okV c x = 0) := Lib.hid (fun c x h => if_neg h)
  generalize chkV x0 x1 x4 = k at *
  clear hb0 hr1
  rcases Int.lt_or_le x0 x1 with o1 | o1
  · rcases Int.lt_or_le x1 x4 with o2 | o2
    · by_cases hbig : 2147483647 < x4
      · obtain rfl := HK.out (by omega)
        obtain ⟨k0, k1, k2, k3, k4⟩ := HR1.out.cells
        have HE1 := Lib.hid (HEE.out _ HB1.out)
        rw [HN.out 1 x0 (by omega), HN.out 1 x1 (by omega), HN.out 1 x2 (by omega), HN.out 1 x3 (by omega), HN.out 1 x4 (by omega)] at HE1
        clear HEE HK HC HO HN HB1 HR1
        go_enter Try.func72, Try.ntmps72
        go_wp2
        exact bodyPost_ret (v := .tuple #[.agg #[.int .i64 0, .int .i64 0, .int .u64 0, .int .u64 0, .int .i64 0], .int .i64 1]) (by simp [results, Try.results72, go_sem, k0, k1, k2, k3, k4]) rfl HE1.out
      · have m0 : x0 ≤ 2147483647 := by omega
        have m1 : x1 ≤ 2147483647 := by omega
        have m4 : x4 ≤ 2147483647 := by omega
        have hbig' : x4 ≤ 2147483647 := by omega
        have hb2 : Below (((w.alloc (.cells #[.int .u64 x0, .int .u64 x1, .int .u64 x2, .int .u64 x3, .int .u64 x4] 108)).alloc (.cells #[.int .i64 0, .int .i64 0, .int .u64 0, .int .u64 0, .int .i64 0] 27))).heap.size (((w.alloc (.cells #[.int .u64 x0, .int .u64 x1, .int .u64 x2, .int .u64 x3, .int .u64 x4] 108)).alloc (.cells #[.int .i64 0, .int .i64 0, .int .u64 0, .int .u64 0, .int .i64 0] 27))) (((((w.alloc (.cells #[.int .u64 x0, .int .u64 x1, .int .u64 x2, .int .u64 x3, .int .u64 x4] 108)).alloc (.cells #[.int .i64 0, .int .i64 0, .int .u64 0, .int .u64 0, .int .i64 0] 27))).alloc (.cells #[.int .i64 x0, .int .i64 x1, .int .u64 x2, .int .u64 x3, .int .i64 x4] 27))) := (Below.refl _ _).alloc (Nat.le_refl _) _
        have HB2 := Lib.hid (Below.then HB1.out hb2 (by simp))
        have HR2 := Lib.hid (HR1.out.go hb2)
        have hs1 : (((w.alloc (.cells #[.int .u64 x0, .int .u64 x1, .int .u64 x2, .int .u64 x3, .int .u64 x4] 108)).alloc (.cells #[.int .i64 0, .int .i64 0, .int .u64 0, .int .u64 0, .int .i64 0] 27))).heap.size = w.heap.size + 1 + 1 := by simp
        have hv2 : EvB (((((w.alloc (.cells #[.int .u64 x0, .int .u64 x1, .int .u64 x2, .int .u64 x3, .int .u64 x4] 108)).alloc (.cells #[.int .i64 0, .int .i64 0, .int .u64 0, .int .u64 0, .int .i64 0] 27))).alloc (.cells #[.int .i64 x0, .int .i64 x1, .int .u64 x2, .int .u64 x3, .int .i64 x4] 27))) (w.heap.size + 1 + 1) x0 x1 x2 x3 x4 := by
          have := EvB.new (w := ((w.alloc (.cells #[.int .u64 x0, .int .u64 x1, .int .u64 x2, .int .u64 x3, .int .u64 x4] 108)).alloc (.cells #[.int .i64 0, .int .i64 0, .int .u64 0, .int .u64 0, .int .i64 0] 27))) (p := x0) (o := x1) (h := x2) (a := x3) (e := x4)
          rwa [hs1] at this
        have HV2 := Lib.hid hv2
        have HCK := Lib.hid (HC.out (((((w.alloc (.cells #[.int .u64 x0, .int .u64 x1, .int .u64 x2, .int .u64 x3, .int .u64 x4] 108)).alloc (.cells #[.int .i64 0, .int .i64 0, .int .u64 0, .int .u64 0, .int .i64 0] 27))).alloc (.cells #[.int .i64 x0, .int .i64 x1, .int .u64 x2, .int .u64 x3, .int .i64 x4] 27))))
        clear HC hb2 hv2 HR1 HB1 hs1 HK hbig
        go_enter Try.func72, Try.ntmps72
        go_wp2_with fail
        generalize ((((w.alloc (.cells #[.int .u64 x0, .int .u64 x1, .int .u64 x2, .int .u64 x3, .int .u64 x4] 108)).alloc (.cells #[.int .i64 0, .int .i64 0, .int .u64 0, .int .u64 0, .int .i64 0] 27))).alloc (.cells #[.int .i64 x0, .int .i64 x1, .int .u64 x2, .int .u64 x3, .int .i64 x4] 27)) = w2 at *
        refine HCK.out.mono ?_
        rintro e w3 ⟨rfl, hb3⟩
        have hr3 := HR2.out.go hb3
        have hv3 := HV2.out.go hb3
        have hbw := Below.then HB2.out hb3 (Nat.le_refl _)
        obtain ⟨c0, c1, c2, c3, c4⟩ := hr3.cells
        obtain ⟨d0, d1, d2, d3, d4⟩ := hv3.cells
        have f0 := hr3.fr 0
        have f1 := hr3.fr 1
        have f2 := hr3.fr 2
        have f3 := hr3.fr 3
        have f4 := hr3.fr 4
        have hlr := hr3.lt
        have HR3 := Lib.hid hr3
        have HBW := Lib.hid hbw
        clear hr3 hv3 hbw hb3 HCK HR2 HV2 HB2
        by_cases hk : k = 0
        · subst hk
          have hq := HR3.out.set5 x0 x1 x2 x3 x4
          have hbq := Below.sets5 HBW.out (Nat.le_succ w.heap.size) x0 x1 x2 x3 x4
          obtain ⟨k0, k1, k2, k3, k4⟩ := hq.cells
          have HE1 := Lib.hid (HEE.out _ hbq)
          rw [HO.out x0, HO.out x1, HO.out x2, HO.out x3, HO.out x4] at HE1
          clear HEE HO HN HR3 HBW hq hbq
          go_wp2
          exact bodyPost_ret (v := .tuple #[.agg #[.int .i64 x0, .int .i64 x1, .int .u64 x2, .int .u64 x3, .int .i64 x4], .int .i64 0]) (by simp [results, Try.results72, go_sem, k0, k1, k2, k3, k4]) rfl HE1.out
        · have hkb : (k != 0) = true := by simpa using hk
          have hq := HR3.out.set5 0 0 0 0 0
          have hbq := Below.sets5 HBW.out (Nat.le_succ w.heap.size) 0 0 0 0 0
          obtain ⟨k0, k1, k2, k3, k4⟩ := hq.cells
          have HE1 := Lib.hid (HEE.out _ hbq)
          rw [HN.out k x0 hk, HN.out k x1 hk, HN.out k x2 hk, HN.out k x3 hk, HN.out k x4 hk] at HE1
          clear HEE HO HN HR3 HBW hq hbq
          go_wp2
          exact bodyPost_ret (v := .tuple #[.agg #[.int .i64 0, .int .i64 0, .int .u64 0, .int .u64 0, .int .i64 0], .int .i64 k]) (by simp [results, Try.results72, go_sem, k0, k1, k2, k3, k4]) rfl HE1.out
    · by_cases hbig : 2147483647 < x1
      · obtain rfl := HK.out (by omega)
        obtain ⟨k0, k1, k2, k3, k4⟩ := HR1.out.cells
        have HE1 := Lib.hid (HEE.out _ HB1.out)
        rw [HN.out 1 x0 (by omega), HN.out 1 x1 (by omega), HN.out 1 x2 (by omega), HN.out 1 x3 (by omega), HN.out 1 x4 (by omega)] at HE1
        clear HEE HK HC HO HN HB1 HR1
        go_enter Try.func72, Try.ntmps72
        go_wp2
        exact bodyPost_ret (v := .tuple #[.agg #[.int .i64 0, .int .i64 0, .int .u64 0, .int .u64 0, .int .i64 0], .int .i64 1]) (by simp [results, Try.results72, go_sem, k0, k1, k2, k3, k4]) rfl HE1.out
      · have m0 : x0 ≤ 2147483647 := by omega
        have m1 : x1 ≤ 2147483647 := by omega
        have m4 : x4 ≤ 2147483647 := by omega
        have hbig' : x1 ≤ 2147483647 := by omega
        have hb2 : Below (((w.alloc (.cells #[.int .u64 x0, .int .u64 x1, .int .u64 x2, .int .u64 x3, .int .u64 x4] 108)).alloc (.cells #[.int .i64 0, .int .i64 0, .int .u64 0, .int .u64 0, .int .i64 0] 27))).heap.size (((w.alloc (.cells #[.int .u64 x0, .int .u64 x1, .int .u64 x2, .int .u64 x3, .int .u64 x4] 108)).alloc (.cells #[.int .i64 0, .int .i64 0, .int .u64 0, .int .u64 0, .int .i64 0] 27))) (((((w.alloc (.cells #[.int .u64 x0, .int .u64 x1, .int .u64 x2, .int .u64 x3, .int .u64 x4] 108)).alloc (.cells #[.int .i64 0, .int .i64 0, .int .u64 0, .int .u64 0, .int .i64 0] 27))).alloc (.cells #[.int .i64 x0, .int .i64 x1, .int .u64 x2, .int .u64 x3, .int .i64 x4] 27))) := (Below.refl _ _).alloc (Nat.le_refl _) _
        have HB2 := Lib.hid (Below.then HB1.out hb2 (by simp))
        have HR2 := Lib.hid (HR1.out.go hb2)
        have hs1 : (((w.alloc (.cells #[.int .u64 x0, .int .u64 x1, .int .u64 x2, .int .u64 x3, .int .u64 x4] 108)).alloc (.cells #[.int .i64 0, .int .i64 0, .int .u64 0, .int .u64 0, .int .i64 0] 27))).heap.size = w.heap.size + 1 + 1 := by simp
        have hv2 : EvB (((((w.alloc (.cells #[.int .u64 x0, .int .u64 x1, .int .u64 x2, .int .u64 x3, .int .u64 x4] 108)).alloc (.cells #[.int .i64 0, .int .i64 0, .int .u64 0, .int .u64 0, .int .i64 0] 27))).alloc (.cells #[.int .i64 x0, .int .i64 x1, .int .u64 x2, .int .u64 x3, .int .i64 x4] 27))) (w.heap.size + 1 + 1) x0 x1 x2 x3 x4 := by
          have := EvB.new (w := ((w.alloc (.cells #[.int .u64 x0, .int .u64 x1, .int .u64 x2, .int .u64 x3, .int .u64 x4] 108)).alloc (.cells #[.int .i64 0, .int .i64 0, .int .u64 0, .int .u64 0, .int .i64 0] 27))) (p := x0) (o := x1) (h := x2) (a := x3) (e := x4)
          rwa [hs1] at this
        have HV2 := Lib.hid hv2
        have HCK := Lib.hid (HC.out (((((w.alloc (.cells #[.int .u64 x0, .int .u64 x1, .int .u64 x2, .int .u64 x3, .int .u64 x4] 108)).alloc (.cells #[.int .i64 0, .int .i64 0, .int .u64 0, .int .u64 0, .int .i64 0] 27))).alloc (.cells #[.int .i64 x0, .int .i64 x1, .int .u64 x2, .int .u64 x3, .int .i64 x4] 27))))
        clear HC hb2 hv2 HR1 HB1 hs1 HK hbig
        go_enter Try.func72, Try.ntmps72
        go_wp2_with fail
        generalize ((((w.alloc (.cells #[.int .u64 x0, .int .u64 x1, .int .u64 x2, .int .u64 x3, .int .u64 x4] 108)).alloc (.cells #[.int .i64 0, .int .i64 0, .int .u64 0, .int .u64 0, .int .i64 0] 27))).alloc (.cells #[.int .i64 x0, .int .i64 x1, .int .u64 x2, .int .u64 x3, .int .i64 x4] 27)) = w2 at *
        refine HCK.out.mono ?_
        rintro e w3 ⟨rfl, hb3⟩
        have hr3 := HR2.out.go hb3
        have hv3 := HV2.out.go hb3
        have hbw := Below.then HB2.out hb3 (Nat.le_refl _)
        obtain ⟨c0, c1, c2, c3, c4⟩ := hr3.cells
        obtain ⟨d0, d1, d2, d3, d4⟩ := hv3.cells
        have f0 := hr3.fr 0
        have f1 := hr3.fr 1
        have f2 := hr3.fr 2
        have f3 := hr3.fr 3
        have f4 := hr3.fr 4
        have hlr := hr3.lt
        have HR3 := Lib.hid hr3
        have HBW := Lib.hid hbw
        clear hr3 hv3 hbw hb3 HCK HR2 HV2 HB2
        by_cases hk : k = 0
        · subst hk
          have hq := HR3.out.set5 x0 x1 x2 x3 x4
          have hbq := Below.sets5 HBW.out (Nat.le_succ w.heap.size) x0 x1 x2 x3 x4
          obtain ⟨k0, k1, k2, k3, k4⟩ := hq.cells
          have HE1 := Lib.hid (HEE.out _ hbq)
          rw [HO.out x0, HO.out x1, HO.out x2, HO.out x3, HO.out x4] at HE1
          clear HEE HO HN HR3 HBW hq hbq
          go_wp2
          exact bodyPost_ret (v := .tuple #[.agg #[.int .i64 x0, .int .i64 x1, .int .u64 x2, .int .u64 x3, .int .i64 x4], .int .i64 0]) (by simp [results, Try.results72, go_sem, k0, k1, k2, k3, k4]) rfl HE1.out
        · have hkb : (k != 0) = true := by simpa using hk
          have hq := HR3.out.set5 0 0 0 0 0
          have hbq := Below.sets5 HBW.out (Nat.le_succ w.heap.size) 0 0 0 0 0
          obtain ⟨k0, k1, k2, k3, k4⟩ := hq.cells
          have HE1 := Lib.hid (HEE.out _ hbq)
          rw [HN.out k x0 hk, HN.out k x1 hk, HN.out k x2 hk, HN.out k x3 hk, HN.out k x4 hk] at HE1
          clear HEE HO HN HR3 HBW hq hbq
          go_wp2
          exact bodyPost_ret (v := .tuple #[.agg #[.int .i64 0, .int .i64 0, .int .u64 0, .int .u64 0, .int .i64 0], .int .i64 k]) (by simp [results, Try.results72, go_sem, k0, k1, k2, k3, k4]) rfl HE1.out
  · rcases Int.lt_or_le x0 x4 with o2 | o2
    · by_cases hbig : 2147483647 < x4
      · obtain rfl := HK.out (by omega)
        obtain ⟨k0, k1, k2, k3, k4⟩ := HR1.out.cells
        have HE1 := Lib.hid (HEE.out _ HB1.out)
        rw [HN.out 1 x0 (by omega), HN.out 1 x1 (by omega), HN.out 1 x2 (by omega), HN.out 1 x3 (by omega), HN.out 1 x4 (by omega)] at HE1
        clear HEE HK HC HO HN HB1 HR1
        go_enter Try.func72, Try.ntmps72
        go_wp2
        exact bodyPost_ret (v := .tuple #[.agg #[.int .i64 0, .int .i64 0, .int .u64 0, .int .u64 0, .int .i64 0], .int .i64 1]) (by simp [results, Try.results72, go_sem, k0, k1, k2, k3, k4]) rfl HE1.out
      · have m0 : x0 ≤ 2147483647 := by omega
        have m1 : x1 ≤ 2147483647 := by omega
        have m4 : x4 ≤ 2147483647 := by omega
        have hbig' : x4 ≤ 2147483647 := by omega
        have hb2 : Below (((w.alloc (.cells #[.int .u64 x0, .int .u64 x1, .int .u64 x2, .int .u64 x3, .int .u64 x4] 108)).alloc (.cells #[.int .i64 0, .int .i64 0, .int .u64 0, .int .u64 0, .int .i64 0] 27))).heap.size (((w.alloc (.cells #[.int .u64 x0, .int .u64 x1, .int .u64 x2, .int .u64 x3, .int .u64 x4] 108)).alloc (.cells #[.int .i64 0, .int .i64 0, .int .u64 0, .int .u64 0, .int .i64 0] 27))) (((((w.alloc (.cells #[.int .u64 x0, .int .u64 x1, .int .u64 x2, .int .u64 x3, .int .u64 x4] 108)).alloc (.cells #[.int .i64 0, .int .i64 0, .int .u64 0, .int .u64 0, .int .i64 0] 27))).alloc (.cells #[.int .i64 x0, .int .i64 x1, .int .u64 x2, .int .u64 x3, .int .i64 x4] 27))) := (Below.refl _ _).alloc (Nat.le_refl _) _
        have HB2 := Lib.hid (Below.then HB1.out hb2 (by simp))
        have HR2 := Lib.hid (HR1.out.go hb2)
        have hs1 : (((w.alloc (.cells #[.int .u64 x0, .int .u64 x1, .int .u64 x2, .int .u64 x3, .int .u64 x4] 108)).alloc (.cells #[.int .i64 0, .int .i64 0, .int .u64 0, .int .u64 0, .int .i64 0] 27))).heap.size = w.heap.size + 1 + 1 := by simp
        have hv2 : EvB (((((w.alloc (.cells #[.int .u64 x0, .int .u64 x1, .int .u64 x2, .int .u64 x3, .int .u64 x4] 108)).alloc (.cells #[.int .i64 0, .int .i64 0, .int .u64 0, .int .u64 0, .int .i64 0] 27))).alloc (.cells #[.int .i64 x0, .int .i64 x1, .int .u64 x2, .int .u64 x3, .int .i64 x4] 27))) (w.heap.size + 1 + 1) x0 x1 x2 x3 x4 := by
          have := EvB.new (w := ((w.alloc (.cells #[.int .u64 x0, .int .u64 x1, .int .u64 x2, .int .u64 x3, .int .u64 x4] 108)).alloc (.cells #[.int .i64 0, .int .i64 0, .int .u64 0, .int .u64 0, .int .i64 0] 27))) (p := x0) (o := x1) (h := x2) (a := x3) (e := x4)
          rwa [hs1] at this
        have HV2 := Lib.hid hv2
        have HCK := Lib.hid (HC.out (((((w.alloc (.cells #[.int .u64 x0, .int .u64 x1, .int .u64 x2, .int .u64 x3, .int .u64 x4] 108)).alloc (.cells #[.int .i64 0, .int .i64 0, .int .u64 0, .int .u64 0, .int .i64 0] 27))).alloc (.cells #[.int .i64 x0, .int .i64 x1, .int .u64 x2, .int .u64 x3, .int .i64 x4] 27))))
        clear HC hb2 hv2 HR1 HB1 hs1 HK hbig
        go_enter Try.func72, Try.ntmps72
        go_wp2_with fail
        generalize ((((w.alloc (.cells #[.int .u64 x0, .int .u64 x1, .int .u64 x2, .int .u64 x3, .int .u64 x4] 108)).alloc (.cells #[.int .i64 0, .int .i64 0, .int .u64 0, .int .u64 0, .int .i64 0] 27))).alloc (.cells #[.int .i64 x0, .int .i64 x1, .int .u64 x2, .int .u64 x3, .int .i64 x4] 27)) = w2 at *
        refine HCK.out.mono ?_
        rintro e w3 ⟨rfl, hb3⟩
        have hr3 := HR2.out.go hb3
        have hv3 := HV2.out.go hb3
        have hbw := Below.then HB2.out hb3 (Nat.le_refl _)
        obtain ⟨c0, c1, c2, c3, c4⟩ := hr3.cells
        obtain ⟨d0, d1, d2, d3, d4⟩ := hv3.cells
        have f0 := hr3.fr 0
        have f1 := hr3.fr 1
        have f2 := hr3.fr 2
        have f3 := hr3.fr 3
        have f4 := hr3.fr 4
        have hlr := hr3.lt
        have HR3 := Lib.hid hr3
        have HBW := Lib.hid hbw
        clear hr3 hv3 hbw hb3 HCK HR2 HV2 HB2
        by_cases hk : k = 0
        · subst hk
          have hq := HR3.out.set5 x0 x1 x2 x3 x4
          have hbq := Below.sets5 HBW.out (Nat.le_succ w.heap.size) x0 x1 x2 x3 x4
          obtain ⟨k0, k1, k2, k3, k4⟩ := hq.cells
          have HE1 := Lib.hid (HEE.out _ hbq)
          rw [HO.out x0, HO.out x1, HO.out x2, HO.out x3, HO.out x4] at HE1
          clear HEE HO HN HR3 HBW hq hbq
          go_wp2
          exact bodyPost_ret (v := .tuple #[.agg #[.int .i64 x0, .int .i64 x1, .int .u64 x2, .int .u64 x3, .int .i64 x4], .int .i64 0]) (by simp [results, Try.results72, go_sem, k0, k1, k2, k3, k4]) rfl HE1.out
        · have hkb : (k != 0) = true := by simpa using hk
          have hq := HR3.out.set5 0 0 0 0 0
          have hbq := Below.sets5 HBW.out (Nat.le_succ w.heap.size) 0 0 0 0 0
          obtain ⟨k0, k1, k2, k3, k4⟩ := hq.cells
          have HE1 := Lib.hid (HEE.out _ hbq)
          rw [HN.out k x0 hk, HN.out k x1 hk, HN.out k x2 hk, HN.out k x3 hk, HN.out k x4 hk] at HE1
          clear HEE HO HN HR3 HBW hq hbq
          go_wp2
          exact bodyPost_ret (v := .tuple #[.agg #[.int .i64 0, .int .i64 0, .int .u64 0, .int .u64 0, .int .i64 0], .int .i64 k]) (by simp [results, Try.results72, go_sem, k0, k1, k2, k3, k4]) rfl HE1.out
    · by_cases hbig : 2147483647 < x0
      · obtain rfl := HK.out (by omega)
        obtain ⟨k0, k1, k2, k3, k4⟩ := HR1.out.cells
        have HE1 := Lib.hid (HEE.out _ HB1.out)
        rw [HN.out 1 x0 (by omega), HN.out 1 x1 (by omega), HN.out 1 x2 (by omega), HN.out 1 x3 (by omega), HN.out 1 x4 (by omega)] at HE1
        clear HEE HK HC HO HN HB1 HR1
        go_enter Try.func72, Try.ntmps72
        go_wp2
        exact bodyPost_ret (v := .tuple #[.agg #[.int .i64 0, .int .i64 0, .int .u64 0, .int .u64 0, .int .i64 0], .int .i64 1]) (by simp [results, Try.results72, go_sem, k0, k1, k2, k3, k4]) rfl HE1.out
      · have m0 : x0 ≤ 2147483647 := by omega
        have m1 : x1 ≤ 2147483647 := by omega
        have m4 : x4 ≤ 2147483647 := by omega
        have hbig' : x0 ≤ 2147483647 := by omega
        have hb2 : Below (((w.alloc (.cells #[.int .u64 x0, .int .u64 x1, .int .u64 x2, .int .u64 x3, .int .u64 x4] 108)).alloc (.cells #[.int .i64 0, .int .i64 0, .int .u64 0, .int .u64 0, .int .i64 0] 27))).heap.size (((w.alloc (.cells #[.int .u64 x0, .int .u64 x1, .int .u64 x2, .int .u64 x3, .int .u64 x4] 108)).alloc (.cells #[.int .i64 0, .int .i64 0, .int .u64 0, .int .u64 0, .int .i64 0] 27))) (((((w.alloc (.cells #[.int .u64 x0, .int .u64 x1, .int .u64 x2, .int .u64 x3, .int .u64 x4] 108)).alloc (.cells #[.int .i64 0, .int .i64 0, .int .u64 0, .int .u64 0, .int .i64 0] 27))).alloc (.cells #[.int .i64 x0, .int .i64 x1, .int .u64 x2, .int .u64 x3, .int .i64 x4] 27))) := (Below.refl _ _).alloc (Nat.le_refl _) _
        have HB2 := Lib.hid (Below.then HB1.out hb2 (by simp))
        have HR2 := Lib.hid (HR1.out.go hb2)
        have hs1 : (((w.alloc (.cells #[.int .u64 x0, .int .u64 x1, .int .u64 x2, .int .u64 x3, .int .u64 x4] 108)).alloc (.cells #[.int .i64 0, .int .i64 0, .int .u64 0, .int .u64 0, .int .i64 0] 27))).heap.size = w.heap.size + 1 + 1 := by simp
        have hv2 : EvB (((((w.alloc (.cells #[.int .u64 x0, .int .u64 x1, .int .u64 x2, .int .u64 x3, .int .u64 x4] 108)).alloc (.cells #[.int .i64 0, .int .i64 0, .int .u64 0, .int .u64 0, .int .i64 0] 27))).alloc (.cells #[.int .i64 x0, .int .i64 x1, .int .u64 x2, .int .u64 x3, .int .i64 x4] 27))) (w.heap.size + 1 + 1) x0 x1 x2 x3 x4 := by
          have := EvB.new (w := ((w.alloc (.cells #[.int .u64 x0, .int .u64 x1, .int .u64 x2, .int .u64 x3, .int .u64 x4] 108)).alloc (.cells #[.int .i64 0, .int .i64 0, .int .u64 0, .int .u64 0, .int .i64 0] 27))) (p := x0) (o := x1) (h := x2) (a := x3) (e := x4)
          rwa [hs1] at this
        have HV2 := Lib.hid hv2
        have HCK := Lib.hid (HC.out (((((w.alloc (.cells #[.int .u64 x0, .int .u64 x1, .int .u64 x2, .int .u64 x3, .int .u64 x4] 108)).alloc (.cells #[.int .i64 0, .int .i64 0, .int .u64 0, .int .u64 0, .int .i64 0] 27))).alloc (.cells #[.int .i64 x0, .int .i64 x1, .int .u64 x2, .int .u64 x3, .int .i64 x4] 27))))
        clear HC hb2 hv2 HR1 HB1 hs1 HK hbig
        go_enter Try.func72, Try.ntmps72
        go_wp2_with fail
        generalize ((((w.alloc (.cells #[.int .u64 x0, .int .u64 x1, .int .u64 x2, .int .u64 x3, .int .u64 x4] 108)).alloc (.cells #[.int .i64 0, .int .i64 0, .int .u64 0, .int .u64 0, .int .i64 0] 27))).alloc (.cells #[.int .i64 x0, .int .i64 x1, .int .u64 x2, .int .u64 x3, .int .i64 x4] 27)) = w2 at *
        refine HCK.out.mono ?_
        rintro e w3 ⟨rfl, hb3⟩
        have hr3 := HR2.out.go hb3
        have hv3 := HV2.out.go hb3
        have hbw := Below.then HB2.out hb3 (Nat.le_refl _)
        obtain ⟨c0, c1, c2, c3, c4⟩ := hr3.cells
        obtain ⟨d0, d1, d2, d3, d4⟩ := hv3.cells
        have f0 := hr3.fr 0
        have f1 := hr3.fr 1
        have f2 := hr3.fr 2
        have f3 := hr3.fr 3
        have f4 := hr3.fr 4
        have hlr := hr3.lt
        have HR3 := Lib.hid hr3
        have HBW := Lib.hid hbw
        clear hr3 hv3 hbw hb3 HCK HR2 HV2 HB2
        by_cases hk : k = 0
        · subst hk
          have hq := HR3.out.set5 x0 x1 x2 x3 x4
          have hbq := Below.sets5 HBW.out (Nat.le_succ w.heap.size) x0 x1 x2 x3 x4
          obtain ⟨k0, k1, k2, k3, k4⟩ := hq.cells
          have HE1 := Lib.hid (HEE.out _ hbq)
          rw [HO.out x0, HO.out x1, HO.out x2, HO.out x3, HO.out x4] at HE1
          clear HEE HO HN HR3 HBW hq hbq
          go_wp2
          exact bodyPost_ret (v := .tuple #[.agg #[.int .i64 x0, .int .i64 x1, .int .u64 x2, .int .u64 x3, .int .i64 x4], .int .i64 0]) (by simp [results, Try.results72, go_sem, k0, k1, k2, k3, k4]) rfl HE1.out
        · have hkb : (k != 0) = true := by simpa using hk
          have hq := HR3.out.set5 0 0 0 0 0
          have hbq := Below.sets5 HBW.out (Nat.le_succ w.heap.size) 0 0 0 0 0
          obtain ⟨k0, k1, k2, k3, k4⟩ := hq.cells
          have HE1 := Lib.hid (HEE.out _ hbq)
          rw [HN.out k x0 hk, HN.out k x1 hk, HN.out k x2 hk, HN.out k x3 hk, HN.out k x4 hk] at HE1
          clear HEE HO HN HR3 HBW hq hbq
          go_wp2
          exact bodyPost_ret (v := .tuple #[.agg #[.int .i64 0, .int .i64 0, .int .u64 0, .int .u64 0, .int .i64 0], .int .i64 k]) (by simp [results, Try.results72, go_sem, k0, k1, k2, k3, k4]) rfl HE1.out
end Go.Proofs.Ytlgoiccekgjhnaa
