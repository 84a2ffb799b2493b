/-
  The law GenerationNew as a walk: called with any arguments of its types it returns true. No conditions.
-/
import Derived.Test.YtnaoffpemnkmmaaGpl
import Derived.Test.YtnaoffpemnkmmaaGsz
namespace Go.Proofs.Ytnaoffpemnkmmaa
open Go.ChangeShapes Go.WideShapes Go.RowKit
set_option linter.unusedVariables false
set_option linter.unusedSimpArgs false
set_option maxHeartbeats 8000000
set_option maxRecDepth 100000

theorem nsS_any (n first : Int) (w : World) : Calls Try.prog 8 #[.int .i64 n, .int .i64 first] w fun e w' =>
    ((nsE n first = 1 ∧ e = .returned (.tuple #[.pointer none, .int .i64 1])) ∨ (nsE n first = 0 ∧ ∃ p, e = .returned (.tuple #[.pointer (some ⟨p, 0, none⟩), .int .i64 0]))) ∧ Below w.heap.size w w' := by
  refine (newS_any n first w (fun _ => 0) 1 (fun _ _ => by omega)).mono ?_
  rintro e w' (⟨h1, h2, h3⟩ | ⟨h1, p, h2, _, _, h3⟩)
  · exact ⟨.inl ⟨h1, h2⟩, h3⟩
  · exact ⟨.inr ⟨h1, p, h2⟩, h3⟩
theorem nsM_any (n first : Int) (w : World) : Calls Try.prog 10 #[.int .i64 n, .int .i64 first] w fun e w' =>
    ((nsE n first = 1 ∧ e = .returned (.tuple #[.pointer none, .int .i64 1])) ∨ (nsE n first = 0 ∧ ∃ p, e = .returned (.tuple #[.pointer (some ⟨p, 0, none⟩), .int .i64 0]))) ∧ Below w.heap.size w w' := by
  refine (newM_any n first w (fun _ => 0) 1 (fun _ _ => by omega)).mono ?_
  rintro e w' (⟨h1, h2, h3⟩ | ⟨h1, p, h2, _, _, h3⟩)
  · exact ⟨.inl ⟨h1, h2⟩, h3 ▸ Below.refl _ _⟩
  · exact ⟨.inr ⟨h1, p, h2⟩, h3⟩
/-- The law's two slots, a nil one and a zero one. -/
structure Zs (w W : World) (b : Nat) : Prop where
  bel : Below w.heap.size w W
  at_ : ∀ i, i < 2 → ∃ v, W.cell? ⟨b, i, none⟩ = some v ∧ Ba W v
theorem Zs.go {w W W' : World} {b : Nat} (h : Zs w W b) (hb : Below W.heap.size W W') : Zs w W' b :=
  ⟨Below.then h.bel hb (Nat.le_refl _), fun i hi => by
    obtain ⟨v, h1, h2⟩ := h.at_ i hi
    exact ⟨v, (hb.cell (p := ⟨b, i, none⟩) (lt_of_some h1)).trans h1, h2.go hb⟩⟩
theorem Zs.made {w W : World} (h : Below w.heap.size w W) : Zs w ((W.alloc (.cells #[.slice none 0 0, .pointer none] 40)).alloc (.cells #[.pointer none, .pointer (some ⟨W.heap.size, 0, none⟩)] 23)) (W.heap.size + 1) := by
  have hz : (W.alloc (.cells #[.slice none 0 0, .pointer none] 40)).heap.size = W.heap.size + 1 := by simp
  refine ⟨(h.alloc h.size _).alloc (by have := h.size; omega) _, fun i hi => ?_⟩
  have e : ∀ j v, #[Value.pointer none, .pointer (some ⟨W.heap.size, 0, none⟩)][j]? = some v → ((W.alloc (.cells #[.slice none 0 0, .pointer none] 40)).alloc (.cells #[.pointer none, .pointer (some ⟨W.heap.size, 0, none⟩)] 23)).cell? ⟨W.heap.size + 1, j, none⟩ = some v := fun j v hv => by
    have := cell_alloc (w := W.alloc (.cells #[.slice none 0 0, .pointer none] 40)) (cs := #[.pointer none, .pointer (some ⟨W.heap.size, 0, none⟩)]) (t := 23) (i := j) hv
    rwa [hz] at this
  rcases i with _ | _ | i
  · exact ⟨_, e 0 _ rfl, .inl rfl⟩
  · exact ⟨_, e 1 _ rfl, .inr ⟨_, rfl, cell_under (cell_alloc (i := 0) rfl) _, cell_under (cell_alloc (i := 1) rfl) _⟩⟩
  · omega
theorem generationNew_walk (a0 a1 a2 a3 : Int) (w : World) (w0 : (Lit.int .i64 a0).wf = true) (w1 : (Lit.int .i64 a1).wf = true) (w2 : (Lit.int .u8 a2).wf = true) (w3 : (Lit.int .i64 a3).wf = true) :
    Calls Try.prog 4 #[.int .i64 a0, .int .i64 a1, .int .u8 a2, .int .i64 a3] w fun e w' => e = .returned (.bool true) ∧ Below w.heap.size w w' := by
  have b2 := byte_bd w2
  have HC := Lib.hid pc_landed
  have hq1 : 0 ≤ a2 / 3 ∧ a2 / 3 ≤ 85 ∧ 0 ≤ a2 / 3 % 3 ∧ a2 / 3 % 3 < 3 := by omega
  have hq0 : 0 ≤ a2 % 3 ∧ a2 % 3 < 3 := by omega
  clear w0 w1 w2 w3
  go_enter Try.func4, Try.ntmps4
  go_wp2_with fail
  refine (nsS_any a0 a1 w).mono ?_
  rintro e wa ⟨he, hba⟩
  have HA := Lib.hid hba
  rcases he with ⟨hE, rfl⟩ | ⟨hE, p, rfl⟩
  all_goals
    have HE := Lib.hid hE
    clear hE hba
    go_wp2_with fail
    refine (nsM_any a0 a1 wa).mono ?_
    rintro e wb ⟨he, hbb⟩
    have HB := Lib.hid (Below.then HA.out hbb (Nat.le_refl _))
    rcases he with ⟨hE', rfl⟩ | ⟨hE', p', rfl⟩
    all_goals first
      | (exfalso; have := HE.out; omega)
      | skip
    clear hE' hbb HA
    go_wp2_with fail
    refine (nsS_any (4095 + a2 % 3) (4294967294 + a2 / 3 % 3) wb).mono ?_
    rintro e wc ⟨he, hbc⟩
    have HA := Lib.hid (Below.then HB.out hbc (Nat.le_refl _))
    rcases he with ⟨hF, rfl⟩ | ⟨hF, r, rfl⟩
    all_goals
      have HF := Lib.hid hF
      clear hF hbc HB
      go_wp2_with fail
      refine (nsM_any (4095 + a2 % 3) (4294967294 + a2 / 3 % 3) wc).mono ?_
      rintro e wd ⟨he, hbd⟩
      have HB := Lib.hid (Below.then HA.out hbd (Nat.le_refl _))
      rcases he with ⟨hF', rfl⟩ | ⟨hF', r', rfl⟩
      all_goals first
        | (exfalso; have := HF.out; omega)
        | skip
      have HZS := Lib.hid (Zs.made HB.out)
      clear hF' hbd HA HB
      go_wp2
      go_loopw [90] (fun kv wr => ∃ i : Nat, i ≤ 2 ∧ kv = .int .i64 i ∧ Hid (Zs w wr (wd.heap.size + 1))) (fun kv _ => 2 - (intOf kv).toNat)
      case atStart => exact ⟨0, by omega, rfl, HZS⟩
      case round =>
        obtain ⟨i, hi, rfl, hh⟩ := hrel
        by_cases hin : i < 2
        · have hi1 : (i : Int) < 2 := by omega
          obtain ⟨v, hc, hv⟩ := hh.out.at_ i hin
          have HV := Lib.hid hv
          clear hv
          go_wp2_with fail
          refine (issZ_any wr v _ HV.out).mono ?_
          rintro e we ⟨rfl, rfl⟩
          go_wp2_with fail
          refine (liveZ_any wr v _ HV.out).mono ?_
          rintro e we ⟨rfl, rfl⟩
          go_wp2_with fail
          refine (endZ_any wr v _ HV.out).mono ?_
          rintro e we ⟨rfl, rfl⟩
          go_wp2_with fail
          refine (sizeZ_any wr v HV.out).mono ?_
          rintro e we ⟨rfl, rfl⟩
          go_wp2_with fail
          refine (retZ_any wr v HV.out).mono ?_
          rintro e we ⟨rfl, rfl⟩
          go_wp2_with fail
          refine (poolZ_any wr v HV.out).mono ?_
          rintro e we ⟨v5, rfl, ho, hbe⟩
          obtain ⟨A5, n5, c5, rfl, hx5⟩ := ho.shape
          obtain rfl : n5 = 0 := hx5.len.symm
          have HX := Lib.hid (hh.out.go hbe)
          clear ho hbe hx5
          go_wp2
          go_roundw
          case rel => exact ⟨i + 1, by omega, by go_num, HX⟩
          case measure => simp [intOf]; omega
        · obtain rfl : i = 2 := by omega
          go_wp2_with fail
          refine (awake12_any HC.out wr).mono ?_
          rintro e w4 ⟨rfl, hb4⟩
          go_wp2
          go_ret
          exact ⟨rfl, Below.then hh.out.bel hb4 (Nat.le_refl _)⟩
end Go.Proofs.Ytnaoffpemnkmmaa
