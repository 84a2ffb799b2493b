/-
  The law SizeclassSizes as a walk: it returns true and changes nothing that was there. No conditions.
-/
import Derived.Test.YtmfggknbhhagbaaSizeR
namespace Go.Proofs.Ytmfggknbhhagbaa
open Go.ChangeShapes Go.WideShapes Go.ChangeAt Go.RowKit Go.Shelf
attribute [local go_sem] Oper.semAt_some
set_option maxHeartbeats 3200000
set_option maxRecDepth 100000

/-- A round that returns has seen what cannot come. -/
def SBad (pre : List (Int × Int)) : Prop := ∃ p x, pre = p ++ [x] ∧ (x.1 ≠ (p.length : Int) ∨ x.2 ≠ sz p.length)
theorem sbad_not {pre : List (Int × Int)} (hp : pre <+: szs 43) : ¬ SBad pre := by
  rintro ⟨p, x, rfl, h⟩
  obtain ⟨e, _⟩ := szs_of_prefix hp
  rw [List.length_append, List.length_singleton, szs_succ] at e
  have e2 := (List.append_inj' e rfl).2
  simp only [List.cons.injEq, and_true] at e2
  subst e2
  rcases h with h | h <;> exact h rfl
theorem min_ifs {a b : Int} : (if b < a then b else a) = min a b := by rw [Int.min_def]; split <;> split <;> omega

theorem sizeclassSizes_walk (stop : Int) (w : World) (h0 : (Lit.int .u8 stop).wf = true) :
    Calls Try.prog 4 #[.int .u8 stop] w fun e w' => e = .returned (.bool true) ∧ Below w.heap.size w w' := by
  have hk := Go.bounds_u8 h0
  have HS2 : Hid (0 ≤ stop % 50 ∧ stop % 50 < 50) := Lib.hid (by omega)
  have hb0 : Below w.heap.size w ((w.alloc (.cells #[.int .u8 stop] 5)).alloc (.cells #[.bool false] 4)) := ((Below.refl _ _).alloc (Nat.le_refl _) _).alloc (by simp) _
  have HB0 := Lib.hid hb0
  have C1 := Lib.hid ((Cel.new (w := w) (t := 5) (v := .int .u8 stop)).go ((Below.refl _ _).alloc (Nat.le_refl _) (.cells #[.bool false] 4)))
  have C2 := Lib.hid (Cel.new (w := w.alloc (.cells #[.int .u8 stop] 5)) (t := 4) (v := .bool false))
  rw [show (w.alloc (.cells #[.int .u8 stop] 5)).heap.size = w.heap.size + 1 by simp] at C2
  clear hb0 h0
  refine (callsIn_wide (n := 6)).1 ?_
  refine callsIn_of_wp_marks Try.func4 rfl trivial ?_ rfl
  refine wpIn_wide.2 ?_
  simp only [Try.ntmps4, List.size_toArray, List.length_cons, List.length_nil, Nat.reduceAdd, Nat.reduceSub, Array.replicate_succ, Array.replicate_zero, List.push_toArray, List.append_toArray, List.nil_append, List.cons_append]
  go_wp2_with fail
  generalize (w.alloc (.cells #[.int .u8 stop] 5)).alloc (.cells #[.bool false] 4) = w0 at *
  refine (awake_any w0).mono ?_
  rintro e w1 ⟨rfl, hb⟩
  have C1 := Lib.hid (C1.out.go hb)
  have C2 := Lib.hid (C2.out.go hb)
  have HB1 := Lib.hid (Below.then HB0.out hb (Nat.le_refl _))
  clear hb
  go_wp2_with fail
  refine (all_any w1).mono ?_
  rintro e w2 ⟨v, rfl, ho, hb⟩
  obtain ⟨A, m, c, rfl, hx⟩ := ho.shape
  obtain rfl : m = 43 := by have := hx.len; rw [iv_len, zl_len] at this; omega
  have hcap := hx.cap
  have hsm := hx.small
  unfold maxLen at hsm
  have HX := Lib.hid hx
  have C1 := Lib.hid (C1.out.go hb)
  have C2 := Lib.hid (C2.out.go hb)
  have HB2 := Lib.hid (Below.then HB1.out hb (Nat.le_refl _))
  clear ho hx hb
  have hb7 : Below w2.heap.size w2 ((w2.alloc (.cells #[.slice A 43 c] 30)).alloc (.cells #[.int .i64 0] 3)) := ((Below.refl _ _).alloc (Nat.le_refl _) _).alloc (by simp) _
  have C3 := Lib.hid ((Cel.new (w := w2) (t := 30) (v := .slice A 43 c)).go ((Below.refl _ _).alloc (Nat.le_refl _) (.cells #[.int .i64 0] 3)))
  have C4 := Lib.hid (Cel.new (w := w2.alloc (.cells #[.slice A 43 c] 30)) (t := 3) (v := .int .i64 0))
  rw [show (w2.alloc (.cells #[.slice A 43 c] 30)).heap.size = w2.heap.size + 1 by simp] at C4
  have HB7 := Lib.hid hb7
  have HZ7 : Hid (((w2.alloc (.cells #[.slice A 43 c] 30)).alloc (.cells #[.int .i64 0] 3)).heap.size = w2.heap.size + 2) := Lib.hid (by simp)
  go_wp2_with fail
  generalize ((w2.alloc (.cells #[.slice A 43 c] 30)).alloc (.cells #[.int .i64 0] 3)) = w7 at *
  clear hb7
  refine (sizes_any w7).mono ?_
  rintro e w8 ⟨rfl, rfl⟩
  have HSQ := Lib.hid (sizes_stops 5 w7.heap.size w7 (by omega))
  have HI8 : Hid (Below w2.heap.size w2 w7 ∧ Cel w7 w2.heap.size 30 (.slice A 43 c) ∧ Cel w7 (w2.heap.size + 1) 3 (.int .i64 (([] : List (Int × Int)).length : Int))) := Lib.hid ⟨HB7.out, C3.out, C4.out⟩
  go_wp2
  refine (wpIn_wide (n := 6)).1 ?_
  refine' wpIn_rangeFunc_ownF rfl (by omega) (gf := 15) (lb := #[]) rfl trivial (enters_of Try.func15 (by kernel_rfl) rfl) HSQ.out Kp.t (Kp.b w7) (Below.refl _ _) (fun _ => rfl)
    (fun (pre : List (Int × Int)) W => Below w2.heap.size w2 W ∧ Cel W w2.heap.size 30 (.slice A 43 c) ∧ Cel W (w2.heap.size + 1) 3 (.int .i64 (pre.length : Int)))
    (fun _ (pre : List (Int × Int)) _ => SBad pre)
    (OwnFrom.and (ownFrom_below (Nat.le_refl _) HB7.out.size) (OwnFrom.and (cel_own _ _ _ _) (cel_own _ _ _ (fun (pre : List (Int × Int)) => .int .i64 (pre.length : Int)))))
    (fun _ => ownFrom_pure _ _)
    HI8.out _ ?assign ?body ?done ?stop
  case assign =>
    intro l x W K hK
    gi_wp2
    exact hK
  case body =>
    rintro l pre x W ⟨hB, c3, c4⟩ hlen
    have HXW := Lib.hid (HX.out.go hB)
    have HB := Lib.hid hB
    have H2 := Lib.hid (C2.out.go hB)
    have H3 := Lib.hid c3
    have H4 := Lib.hid c4
    have e2 := H2.out.cell
    have f2 := H2.out.fr
    have e3 := c3.cell
    have e4 := c4.cell
    have f4 := c4.fr
    have hz := HZ7.out
    have hpl : (pre.length : Int) < 43 := by omega
    have HLP : Hid (((pre ++ [x]).length : Int) = (pre.length : Int) + 1) := Lib.hid (by simp)
    obtain ⟨b, o, rfl, _, hcell⟩ := HXW.out.int hlen
    rw [zl_at hlen] at hcell
    clear hB c3 c4
    have hres : Hid (KeepsOthers W (W.setCell ⟨w2.heap.size + 1, 0, none⟩ (.int .i64 ((pre.length : Int) + 1))) ∧ Kp w7.heap.size W (W.setCell ⟨w2.heap.size + 1, 0, none⟩ (.int .i64 ((pre.length : Int) + 1))) ∧ Below w2.heap.size w2 (W.setCell ⟨w2.heap.size + 1, 0, none⟩ (.int .i64 ((pre.length : Int) + 1))) ∧ Cel (W.setCell ⟨w2.heap.size + 1, 0, none⟩ (.int .i64 ((pre.length : Int) + 1))) w2.heap.size 30 (.slice (some ⟨b, o, none⟩) 43 c) ∧ Cel (W.setCell ⟨w2.heap.size + 1, 0, none⟩ (.int .i64 ((pre.length : Int) + 1))) (w2.heap.size + 1) 3 (.int .i64 ((pre ++ [x]).length : Int))) :=
      Lib.hid ⟨KeepsOthers.setCell _ _ _, Kp.set (by omega) _, HB.out.setCell (p := ⟨w2.heap.size + 1, 0, none⟩) (by simp) _, H3.out.other (by omega) _, by rw [HLP.out]; exact H4.out.set _⟩
    have HW1 : Hid (x.1 ≠ (pre.length : Int) → SBad (pre ++ [x])) := Lib.hid (fun h => ⟨_, _, rfl, .inl h⟩)
    have HW2 : Hid (x.2 ≠ sz pre.length → SBad (pre ++ [x])) := Lib.hid (fun h => ⟨_, _, rfl, .inr h⟩)
    clear HLP hz
    by_cases h1 : x.1 = (pre.length : Int)
    · by_cases h2 : x.2 = sz pre.length
      · generalize sz pre.length = zz at *
        gi_wp2
        exact hres.out
      · have h3 : (x.2 != sz pre.length) = true := by simp [h2]
        gi_wp2
        exact ⟨KeepsOthers.setCell _ _ _, HW2.out h2⟩
    · gi_wp2
      exact ⟨KeepsOthers.setCell _ _ _, HW1.out h1⟩
  case stop =>
    rintro D c pre W _ hp hb _
    exact (sbad_not hp hb).elim
  case done =>
    rintro D ys W hD rfl ⟨hB, c3, c4⟩ hK
    rw [szs_len] at c4
    have HKW := Lib.hid (show Df W D from hK)
    have HDw := Lib.hid (Nat.le_trans HB7.out.size hD)
    have HB := Lib.hid hB
    have H1W := Lib.hid (C1.out.go hB)
    have H2W := Lib.hid (C2.out.go hB)
    have H3W := Lib.hid c3
    have H4W := Lib.hid c4
    clear hK hD hB c3 c4 HI8 HSQ C3 C4
    have ha : Below W.heap.size W (W.alloc (.cells #[.int .i64 0] 3)) := (Below.refl _ _).alloc (Nat.le_refl _) _
    have HA := Lib.hid ha
    have HT := Lib.hid (Cel.new (w := W) (t := 3) (v := .int .i64 0))
    dsimp only
    go_wp2_with fail
    have HNW : Hid (W.heap.size < (W.alloc (.cells #[.int .i64 0] 3)).heap.size) := Lib.hid (by simp)
    generalize W.alloc (.cells #[.int .i64 0] 3) = w9 at *
    clear ha
    refine (sizes_any w9).mono ?_
    rintro e w10 ⟨rfl, rfl⟩
    have HSQ := Lib.hid (sizes_stops 5 w9.heap.size w9 (by omega))
    go_wp2
    refine (wpIn_wide (n := 6)).1 ?_
    refine' wpIn_rangeFunc_ownF rfl (by omega) (gf := 15) (lb := #[]) rfl trivial (enters_of Try.func15 (by kernel_rfl) rfl) HSQ.out Kp.t (Kp.b w9) (Below.refl _ _) (fun _ => rfl)
      (fun (pre : List (Int × Int)) V => Below W.heap.size W V ∧ Cel V W.heap.size 3 (.int .i64 (pre.length : Int)) ∧ (pre.length : Int) ≤ stop % 50)
      (fun c (pre : List (Int × Int)) V => c = .exit 2 ∧ Below W.heap.size W V ∧ Cel V W.heap.size 3 (.int .i64 (pre.length : Int)) ∧ (pre.length : Int) = stop % 50 + 1)
      (OwnFrom.and (ownFrom_below (Nat.le_refl _) HA.out.size) (OwnFrom.and (cel_own _ _ _ (fun (pre : List (Int × Int)) => .int .i64 (pre.length : Int))) (ownFrom_pure _ _)))
      (fun c => OwnFrom.and (ownFrom_pure _ (fun _ => c = .exit 2)) (OwnFrom.and (ownFrom_below (Nat.le_refl _) HA.out.size) (OwnFrom.and (cel_own _ _ _ (fun (pre : List (Int × Int)) => .int .i64 (pre.length : Int))) (ownFrom_pure _ _))))
      ⟨HA.out, HT.out, HS2.out.1⟩ _ ?assign2 ?body2 ?done2 ?stop2
    case assign2 =>
      intro l x V K hK
      gi_wp2
      exact hK
    case body2 =>
      rintro l pre x V ⟨hB, ck, hle⟩ hlen
      have HBV := Lib.hid hB
      have HKV := Lib.hid ck
      have H5 := Lib.hid (H1W.out.go hB)
      have ek := ck.cell
      have fk := ck.fr
      have hne : w.heap.size ≠ W.heap.size := by have h1 := H1W.out.lt; omega
      have e5 : (V.setCell ⟨W.heap.size, 0, none⟩ (.int .i64 ((pre.length : Int) + 1))).cell? ⟨w.heap.size, 0, none⟩ = some (.int .u8 stop) := (H5.out.other hne _).cell
      have HLE := Lib.hid hle
      have hpl : (pre.length : Int) < 43 := by omega
      clear hB ck hlen hle hne
      gi_wp2
      · have hs := HLE.out
        have hlp : ((pre ++ [x]).length : Int) = (pre.length : Int) + 1 := by simp
        refine ⟨KeepsOthers.setCell _ _ _, rfl, HBV.out.setCell (p := ⟨W.heap.size, 0, none⟩) (Nat.le_refl _) _, ?_, by omega⟩
        rw [hlp]
        exact HKV.out.set _
      · have hlp : ((pre ++ [x]).length : Int) = (pre.length : Int) + 1 := by simp
        refine ⟨KeepsOthers.setCell _ _ _, Kp.set HNW.out _, HBV.out.setCell (p := ⟨W.heap.size, 0, none⟩) (Nat.le_refl _) _, ?_, by omega⟩
        rw [hlp]
        exact HKV.out.set _
    case done2 =>
      rintro D2 ys V hD2 rfl ⟨hB, ck, hle⟩ hK
      rw [szs_len] at ck hle
      have hkm : ((43 : Nat) : Int) = min (stop % 50 + 1) 43 := by omega
      generalize ((43 : Nat) : Int) = kv at ck hkm
      have HKM := Lib.hid hkm
      have HK2 := Lib.hid (show Df V D2 from hK)
      have HK := Lib.hid (HKW.out.go hB)
      have H1 := Lib.hid (H1W.out.go hB)
      have H2 := Lib.hid (H2W.out.go hB)
      have H3 := Lib.hid (H3W.out.go hB)
      have H4 := Lib.hid (H4W.out.go hB)
      have HCK := Lib.hid ck
      have HBv := Lib.hid (HB2.out.trans ((HB.out.trans (hB.mono HB.out.size)).mono HB2.out.size))
      have HDD : Hid (D < D2 ∧ w.heap.size ≤ D ∧ w.heap.size ≤ D2) := Lib.hid (by have h1 := HKW.out.lt; have h2 := HA.out.size; have h3 := HDw.out; have h4 := HB2.out.size; omega)
      clear hB ck hle hK hkm
      dsimp only
      go_wp2_with fail
      refine (awake_any V).mono ?_
      rintro e W1 ⟨rfl, hb⟩
      have HK := Lib.hid (HK.out.go hb)
      have HK2 := Lib.hid (HK2.out.go hb)
      have H1 := Lib.hid (H1.out.go hb)
      have H2 := Lib.hid (H2.out.go hb)
      have H3 := Lib.hid (H3.out.go hb)
      have H4 := Lib.hid (H4.out.go hb)
      have HCK := Lib.hid (HCK.out.go hb)
      have HBv := Lib.hid (Below.then HBv.out hb (Nat.le_refl _))
      have g1 := H1.out.cell
      have g2 := H2.out.cell
      have f2 := H2.out.fr
      have g3 := H3.out.cell
      have g4 := H4.out.cell
      have gk := HCK.out.cell
      have hmn : (if (43 : Int) < stop % 50 + 1 then 43 else stop % 50 + 1) = kv := by rw [min_ifs]; exact HKM.out.symm
      clear hb
      have HD1 := Lib.hid (HK.out.set ⟨w.heap.size + 1, 0, none⟩ (.bool true))
      have HD2 := Lib.hid (HK2.out.set ⟨w.heap.size + 1, 0, none⟩ (.bool true))
      have H6s := Lib.hid (H2.out.set (.bool true))
      have HBs := Lib.hid (HBv.out.setCell (p := ⟨w.heap.size + 1, 0, none⟩) (by simp) (.bool true))
      go_wp2
      have hdd := HDD.out
      refine leave_one HD2.out ?_
      have HBs := Lib.hid (HD2.out.below (by omega) HBs.out (.deferred none))
      have H6s := Lib.hid (H6s.out.put HD2.out (.deferred none))
      have HD1 := Lib.hid (HD1.out.put (by omega) (.deferred none) (D' := D2))
      refine leave_one HD1.out ?_
      have HBs := Lib.hid (HD1.out.below (by omega) HBs.out (.deferred none))
      have hc6 := (H6s.out.put HD1.out (.deferred none)).cell
      refine ⟨.bool true, ?_, rfl, HBs.out⟩
      simp [results, Try.f4, go_sem, hc6]
    case stop2 =>
      rintro D2 c pre V hD2 hp ⟨rfl, hB, ck, hle⟩ hK
      have hkm : (pre.length : Int) = min (stop % 50 + 1) 43 := by have h1 := (szs_of_prefix hp).2; omega
      generalize (pre.length : Int) = kv at ck hkm
      refine wpIn_wide.2 ?_
      have HKM := Lib.hid hkm
      have HK2 := Lib.hid (show Df V D2 from hK)
      have HK := Lib.hid (HKW.out.go hB)
      have H1 := Lib.hid (H1W.out.go hB)
      have H2 := Lib.hid (H2W.out.go hB)
      have H3 := Lib.hid (H3W.out.go hB)
      have H4 := Lib.hid (H4W.out.go hB)
      have HCK := Lib.hid ck
      have HBv := Lib.hid (HB2.out.trans ((HB.out.trans (hB.mono HB.out.size)).mono HB2.out.size))
      have HDD : Hid (D < D2 ∧ w.heap.size ≤ D ∧ w.heap.size ≤ D2) := Lib.hid (by have h1 := HKW.out.lt; have h2 := HA.out.size; have h3 := HDw.out; have h4 := HB2.out.size; omega)
      clear hB ck hle hK hkm
      dsimp only
      go_wp2_with fail
      refine (awake_any V).mono ?_
      rintro e W1 ⟨rfl, hb⟩
      have HK := Lib.hid (HK.out.go hb)
      have HK2 := Lib.hid (HK2.out.go hb)
      have H1 := Lib.hid (H1.out.go hb)
      have H2 := Lib.hid (H2.out.go hb)
      have H3 := Lib.hid (H3.out.go hb)
      have H4 := Lib.hid (H4.out.go hb)
      have HCK := Lib.hid (HCK.out.go hb)
      have HBv := Lib.hid (Below.then HBv.out hb (Nat.le_refl _))
      have g1 := H1.out.cell
      have g2 := H2.out.cell
      have f2 := H2.out.fr
      have g3 := H3.out.cell
      have g4 := H4.out.cell
      have gk := HCK.out.cell
      have hmn : (if (43 : Int) < stop % 50 + 1 then 43 else stop % 50 + 1) = kv := by rw [min_ifs]; exact HKM.out.symm
      clear hb
      have HD1 := Lib.hid (HK.out.set ⟨w.heap.size + 1, 0, none⟩ (.bool true))
      have HD2 := Lib.hid (HK2.out.set ⟨w.heap.size + 1, 0, none⟩ (.bool true))
      have H6s := Lib.hid (H2.out.set (.bool true))
      have HBs := Lib.hid (HBv.out.setCell (p := ⟨w.heap.size + 1, 0, none⟩) (by simp) (.bool true))
      go_wp2
      have hdd := HDD.out
      refine leave_one HD2.out ?_
      have HBs := Lib.hid (HD2.out.below (by omega) HBs.out (.deferred none))
      have H6s := Lib.hid (H6s.out.put HD2.out (.deferred none))
      have HD1 := Lib.hid (HD1.out.put (by omega) (.deferred none) (D' := D2))
      refine leave_one HD1.out ?_
      have HBs := Lib.hid (HD1.out.below (by omega) HBs.out (.deferred none))
      have hc6 := (H6s.out.put HD1.out (.deferred none)).cell
      refine ⟨.bool true, ?_, rfl, HBs.out⟩
      simp [results, Try.f4, go_sem, hc6]
end Go.Proofs.Ytmfggknbhhagbaa
