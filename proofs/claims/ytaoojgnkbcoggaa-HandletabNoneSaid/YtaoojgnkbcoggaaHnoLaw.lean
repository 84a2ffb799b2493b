/-
  The law HandletabNone as a walk: called with any arguments of its types it returns true. No conditions.
-/
import Derived.Test.YtaoojgnkbcoggaaHzt
namespace Go.Proofs.Ytaoojgnkbcoggaa
open Go.ChangeShapes Go.WideShapes Go.RowKit
set_option linter.unusedVariables false
set_option linter.unusedSimpArgs false
set_option maxHeartbeats 8000000
set_option maxRecDepth 100000

theorem ntT_any (n first : Int) (w : World) : Calls Try.prog 9 #[.int .i64 n, .int .i64 first] w fun e w' =>
    ((nsE n first = 1 ∧ e = .returned (.tuple #[.pointer none, .int .i64 1])) ∨ (nsE n first = 0 ∧ ∃ p, e = .returned (.tuple #[.pointer (some ⟨p, 0, none⟩), .int .i64 0]))) ∧ Below w.heap.size w w' := by
  refine (newT_any n first w (fun _ => 0) 1).mono ?_
  rintro e w' (⟨h1, h2, h3⟩ | ⟨h1, p, h2, _, _, h3⟩)
  · exact ⟨.inl ⟨h1, h2⟩, h3⟩
  · exact ⟨.inr ⟨h1, p, h2⟩, h3⟩
theorem ntM_any (n first : Int) (w : World) : Calls Try.prog 11 #[.int .i64 n, .int .i64 first] w fun e w' =>
    ((nsE n first = 1 ∧ e = .returned (.tuple #[.pointer none, .int .i64 1])) ∨ (nsE n first = 0 ∧ ∃ p, e = .returned (.tuple #[.pointer (some ⟨p, 0, none⟩), .int .i64 0]))) ∧ Below w.heap.size w w' := by
  refine (newM13_any n first w (fun _ => 0) 1).mono ?_
  rintro e w' (⟨h1, h2, h3⟩ | ⟨h1, p, h2, _, _, h3⟩)
  · exact ⟨.inl ⟨h1, h2⟩, h3⟩
  · exact ⟨.inr ⟨h1, p, h2⟩, h3⟩
/-- The law's two tables, a nil one and a zero one. -/
structure Zt (w W : World) (b : Nat) : Prop where
  bel : Below w.heap.size w W
  at_ : ∀ i, i < 2 → ∃ v, W.cell? ⟨b, i, none⟩ = some v ∧ Bt W v
theorem Zt.go {w W W' : World} {b : Nat} (h : Zt w W b) (hb : Below W.heap.size W W') : Zt w W' b :=
  ⟨Below.then h.bel hb (Nat.le_refl _), fun i hi => by
    obtain ⟨v, h1, h2⟩ := h.at_ i hi
    exact ⟨v, (hb.cell (p := ⟨b, i, none⟩) (lt_of_some h1)).trans h1, h2.go hb⟩⟩
theorem Zt.made {w W : World} (h : Below w.heap.size w W) : Zt w ((W.alloc (.cells #[.pointer none, .slice none 0 0] 63)).alloc (.cells #[.pointer none, .pointer (some ⟨W.heap.size, 0, none⟩)] 24)) (W.heap.size + 1) := by
  have hz : (W.alloc (.cells #[.pointer none, .slice none 0 0] 63)).heap.size = W.heap.size + 1 := by simp
  refine ⟨(h.alloc h.size _).alloc (by have := h.size; omega) _, fun i hi => ?_⟩
  have e : ∀ j v, #[Value.pointer none, .pointer (some ⟨W.heap.size, 0, none⟩)][j]? = some v → ((W.alloc (.cells #[.pointer none, .slice none 0 0] 63)).alloc (.cells #[.pointer none, .pointer (some ⟨W.heap.size, 0, none⟩)] 24)).cell? ⟨W.heap.size + 1, j, none⟩ = some v := fun j v hv => by
    have := cell_alloc (w := W.alloc (.cells #[.pointer none, .slice none 0 0] 63)) (cs := #[.pointer none, .pointer (some ⟨W.heap.size, 0, none⟩)]) (t := 24) (i := j) hv
    rwa [hz] at this
  rcases i with _ | _ | i
  · exact ⟨_, e 0 _ rfl, _, rfl, .inl rfl⟩
  · exact ⟨_, e 1 _ rfl, _, rfl, .inr ⟨_, rfl, cell_under (cell_alloc (i := 0) rfl) _, cell_under (cell_alloc (i := 1) rfl) _⟩⟩
  · omega
theorem handletabNone_walk (a0 a1 h own : Int) (w : World) (w0 : (Lit.int .i64 a0).wf = true) (w1 : (Lit.int .i64 a1).wf = true) (w2 : (Lit.int .u64 h).wf = true) (w3 : (Lit.int .i64 own).wf = true) :
    Calls Try.prog 7 #[.int .i64 a0, .int .i64 a1, .int .u64 h, .int .i64 own] w fun e w' => e = .returned (.bool true) ∧ Below w.heap.size w w' := by
  have hu0 : U64 h := by
    have := Go.bounds_u64 w2
    unfold U64
    omega
  have HU := Lib.hid hu0
  have hu1 := hu0.1
  have hu2 := hu0.2
  clear w0 w1 w2 w3 hu0
  go_enter Try.func7, Try.ntmps7
  go_wp2_with fail
  refine (ntT_any a0 a1 w).mono ?_
  rintro e wa ⟨he, hba⟩
  have HA := Lib.hid hba
  rcases he with ⟨hE, rfl⟩ | ⟨hE, p, rfl⟩
  all_goals
    have HE := Lib.hid hE
    clear hE hba
    go_wp2_with fail
    refine (ntM_any a0 a1 wa).mono ?_
    rintro e wb ⟨he, hbb⟩
    have HB := Lib.hid (Below.then HA.out hbb (Nat.le_refl _))
    rcases he with ⟨hE', rfl⟩ | ⟨hE', p', rfl⟩
    all_goals first
      | (exfalso; have := HE.out; omega)
      | skip
    clear hE' hbb HA
    have HZS := Lib.hid (Zt.made HB.out)
    clear HB
    go_wp2
    go_loopw [49] (fun kv wr => ∃ i : Nat, i ≤ 2 ∧ kv = .int .i64 i ∧ Hid (Zt w wr (wb.heap.size + 1))) (fun kv _ => 2 - (intOf kv).toNat)
    case atStart => exact ⟨0, by omega, rfl, HZS⟩
    case round =>
      obtain ⟨i, hi, rfl, hh⟩ := hrel
      by_cases hin : i < 2
      · have hi1 : (i : Int) < 2 := by omega
        obtain ⟨v, hc, hv⟩ := hh.out.at_ i hin
        have HV := Lib.hid hv
        have HZ1 := Lib.hid hh.out
        clear hv hh
        go_wp2_with fail
        refine (issZ13_ok wr v 0 0 h HV.out).mono ?_
        rintro e w1 ⟨rfl, hb1⟩
        have HV1 := Lib.hid (HV.out.go hb1)
        have HZ2 := Lib.hid (HZ1.out.go hb1)
        clear hb1 HV HZ1 hc
        go_wp2_with fail
        refine (issZ13_bad w1 v 0 0 h HV1.out).mono ?_
        rintro e w2 ⟨rfl, hb2⟩
        have HV2 := Lib.hid (HV1.out.go hb2)
        have HZ3 := Lib.hid (HZ2.out.go hb2)
        clear hb2 HV1 HZ2
        go_wp2_with fail
        refine (resZ13_any w2 v h HV2.out HU.out).mono ?_
        rintro e w3 ⟨rfl, hb3⟩
        have hb3' : Below w2.heap.size w2 (w3.alloc (.cells #[.int .u64 0, .int .i64 0, .int .i64 0, .int .i64 0, .int .i64 0] 44)) := hb3.alloc hb3.size _
        have HV3 := Lib.hid (HV2.out.go hb3')
        have HZ4 := Lib.hid (HZ3.out.go hb3')
        clear hb3 hb3' HV2 HZ3
        go_wp2_with fail
        generalize w3.alloc (.cells #[.int .u64 0, .int .i64 0, .int .i64 0, .int .i64 0, .int .i64 0] 44) = w4 at *
        refine (drpZ13_any w4 v h HV3.out HU.out).mono ?_
        rintro e w5 ⟨rfl, hb5⟩
        have HV5 := Lib.hid (HV3.out.go hb5)
        have HZ5 := Lib.hid (HZ4.out.go hb5)
        clear hb5 HV3 HZ4
        go_wp2_with fail
        refine (givZ13_any w5 v h own HV5.out HU.out).mono ?_
        rintro e w6 ⟨rfl, hb6⟩
        have HV6 := Lib.hid (HV5.out.go hb6)
        have HZ6 := Lib.hid (HZ5.out.go hb6)
        clear hb6 HV5 HZ5
        go_wp2_with fail
        refine (listedZ13_any w6 v HV6.out).mono ?_
        rintro e w7 ⟨v7, rfl, ho7, hb7⟩
        obtain ⟨A7, n7, c7, rfl, hx7⟩ := ho7.shape
        obtain rfl : n7 = 0 := hx7.len.symm
        have HV7 := Lib.hid (HV6.out.go hb7)
        have HZ7 := Lib.hid (HZ6.out.go hb7)
        clear hb7 ho7 hx7 HV6 HZ6
        go_wp2_with fail
        refine (fullZ13_any w7 v HV7.out).mono ?_
        rintro e w8 ⟨rfl, hb8⟩
        have HV8 := Lib.hid (HV7.out.go hb8)
        have HZ8 := Lib.hid (HZ7.out.go hb8)
        clear hb8 HV7 HZ7
        go_wp2_with fail
        refine (retZ13_any w8 v HV8.out).mono ?_
        rintro e w9 ⟨rfl, rfl⟩
        go_wp2_with fail
        refine (poolZ13_any w8 v HV8.out).mono ?_
        rintro e w10 ⟨v10, rfl, ho10, hb10⟩
        obtain ⟨A10, n10, c10, rfl, hx10⟩ := ho10.shape
        obtain rfl : n10 = 0 := hx10.len.symm
        have HX := Lib.hid (HZ8.out.go hb10)
        clear ho10 hb10 hx10 HV8 HZ8
        go_wp2
        go_roundw
        case rel => exact ⟨i + 1, by omega, by go_num, HX⟩
        case measure => simp [intOf]; omega
      · obtain rfl : i = 2 := by omega
        go_wp2_with fail
        refine (awake13_any wr).mono ?_
        rintro e w4 ⟨rfl, hb4⟩
        go_wp2
        go_ret
        exact ⟨rfl, Below.then hh.out.bel hb4 (Nat.le_refl _)⟩
end Go.Proofs.Ytaoojgnkbcoggaa
