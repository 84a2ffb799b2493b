/-
  Contracts of the functions that read numbers and byte strings, of package wire and of the reference: what they return is what the plain functions of the text Leb say. Conditions: the slice holds bytes and has a length of at most a million.
-/
import Derived.Test.YtlgoiccekgjhnaaWpu
import Derived.Deep.QuietTactic
import Derived.BigQuiet
namespace Go.Proofs.Ytlgoiccekgjhnaa
open Go.ChangeShapes Go.WideShapes Go.ChangeAt Go.RowKit
set_option maxHeartbeats 400000
set_option maxRecDepth 100000

theorem canEnd_yes (c : Int) (i : Nat) (h0 : 0 ≤ c) (h1 : c ≤ 255) (hi : i ≤ 10) (h : endB c i = true) (w : World) :
    Calls Try.prog 82 #[.int .u8 c, .int .i64 i] w fun e w' => e = .returned (.bool true) ∧ w = w' := by
  unfold endB at h
  rw [decide_eq_true_iff] at h
  by_cases hi0 : i = 0
  · have k1 : ((i : Int) == 0) = true := by simp [hi0]
    clear h hi0
    go_enter Try.func82, Try.ntmps82
    go_wp2
    go_ret
    exact ⟨rfl, rfl⟩
  · have k1 : ((i : Int) == 0) = false := by rw [beq_eq_false_iff_ne]; omega
    have k2 : (c != 0) = true := by rw [bne_iff_ne]; omega
    by_cases h9 : (i : Int) < 9
    · clear h hi0
      go_enter Try.func82, Try.ntmps82
      go_wp2
      go_ret
      exact ⟨rfl, rfl⟩
    · have k3 : c ≤ 1 := by omega
      clear h hi0
      go_enter Try.func82, Try.ntmps82
      go_wp2
      go_ret
      exact ⟨rfl, rfl⟩
theorem canEnd_no (c : Int) (i : Nat) (h0 : 0 ≤ c) (h1 : c ≤ 255) (hi : i ≤ 10) (h : endB c i = false) (w : World) :
    Calls Try.prog 82 #[.int .u8 c, .int .i64 i] w fun e w' => e = .returned (.bool false) ∧ w = w' := by
  unfold endB at h
  rw [decide_eq_false_iff_not] at h
  have k1 : ((i : Int) == 0) = false := by rw [beq_eq_false_iff_ne]; omega
  by_cases hc : c = 0
  · have k2 : (c != 0) = false := by simp [hc]
    clear h hc
    go_enter Try.func82, Try.ntmps82
    go_wp2
    go_ret
    exact ⟨rfl, rfl⟩
  · have k2 : (c != 0) = true := by rw [bne_iff_ne]; omega
    have k3 : ¬ c ≤ 1 := by omega
    have k4 : ¬ (i : Int) < 9 := by omega
    clear h hc
    go_enter Try.func82, Try.ntmps82
    go_wp2
    go_ret
    exact ⟨rfl, rfl⟩

/-- What a function that reads a number says. -/
def GotU (w : World) (l : List Int) (e : Ending) (w' : World) : Prop := e = .returned (.tuple #[.int .u64 (rdX l), .int .i64 (rdK l), .int .i64 (rdE l)]) ∧ w = w'
theorem gotU {w : World} {l : List Int} {x k e : Int} (h : Rd l x k e) : GotU w l (.returned (.tuple #[.int .u64 x, .int .i64 k, .int .i64 e])) w := by
  obtain ⟨rfl, rfl, rfl⟩ := h
  exact ⟨rfl, rfl⟩

theorem uint_any (A : Option Addr) (n c : Nat) (l : List Int) (w : World) {B : Nat} (h : Bts w B A n c l) (hs : Small l) (hn : n ≤ 1000000) :
    Calls Try.prog 71 #[.slice A n c] w (GotU w l) := by
  have HB := Lib.hid h
  have HS := Lib.hid hs
  have hcap := h.cap
  have hsm := h.small
  unfold maxLen at hsm
  clear h hs
  by_cases h10 : n ≤ 10
  · go_enter Try.func71, Try.ntmps71
    go_wp2
    go_loop [5, 14] (fun x i => ∃ (k : Nat) (y : Int), k ≤ n ∧ i = .int .i64 k ∧ x = .int .u64 y ∧ 0 ≤ y ∧ y < 18446744073709551616 ∧ Hid ((∀ j, j < k → 128 ≤ l.getD j 0) ∧ (k ≤ 9 → y = val (l.take k))))
      (fun _ i => n - (intOf i).toNat)
    case atStart => exact ⟨0, 0, Nat.zero_le _, rfl, rfl, by omega, by omega, Lib.hid ⟨fun j hj => absurd hj (by omega), fun _ => by simp [val]⟩⟩
    case round =>
      obtain ⟨k, y, hk, rfl, rfl, hy0, hy1, hh⟩ := hrel
      by_cases hlt : k < n
      · obtain ⟨b, o, rfl, _, hcell⟩ := HB.out.at_ (show k < n by omega)
        have hkl : k < l.length := by have := HB.out.len; omega
        obtain ⟨c0, hc0⟩ : ∃ c0, l.getD k 0 = c0 := ⟨_, rfl⟩
        rw [hc0] at hcell
        have hcb : 0 ≤ c0 ∧ c0 ≤ 255 := by
          rw [← hc0]
          refine HS.out _ ?_
          simp [List.getD, hkl]
        obtain ⟨hcb0, hcb1⟩ := hcb
        have HC := Lib.hid hc0
        clear hc0
        by_cases hbig : 128 ≤ c0
        · have k1 : (bits .and .u8 c0 128 == 0) = false := by rw [and128_8 c0 hcb0 hcb1, if_neg (by omega)]; rfl
          go_wp2
          go_round
          case rel =>
            obtain ⟨h1, h2⟩ := hh.out
            have hb := step_bd y c0 k hy0 hy1
            refine ⟨k + 1, _, by omega, by go_num, rfl, hb.1, hb.2, Lib.hid ⟨fun j hj => ?_, fun h9 => ?_⟩⟩
            · by_cases hjk : j < k
              · exact h1 j hjk
              · obtain rfl : j = k := by omega
                rw [HC.out]; exact hbig
            · exact step_val hkl HC.out (h2 (by omega)) hcb0 hcb1 (.inl (by omega))
          case measure => simp [intOf]; omega
        · have k1 : (bits .and .u8 c0 128 == 0) = true := by rw [and128_8 c0 hcb0 hcb1, if_pos (by omega)]; rfl
          have hca : l.getD k 0 < 128 := by rw [HC.out]; omega
          cases hend : endB c0 k with
          | true =>
            have HR : Hid (Rd l (bits .or .u64 y (IntKind.u64.wrap (IntKind.u64.wrap (bits .and .u8 c0 127) * 2 ^ (7 * k)))) ((k : Int) + 1) 0) := by
              obtain ⟨h1, h2⟩ := hh.out
              have h9 : k ≤ 8 ∨ (k = 9 ∧ c0 ≤ 1) := by
                unfold endB at hend
                rw [decide_eq_true_iff] at hend
                omega
              rw [step_val hkl HC.out (h2 (by omega)) hcb0 hcb1 h9]
              exact Lib.hid (rd_ok hkl (by omega) h1 hca (by rw [HC.out]; exact hend))
            have HK := Lib.hid (canEnd_yes c0 k hcb0 hcb1 (by omega) hend)
            clear hend hca
            go_wp2_with fail
            refine (HK.out _).mono ?_
            rintro e w' ⟨rfl, rfl⟩
            go_wp2
            go_ret3
            exact gotU HR.out
          | false =>
            have HR : Hid (Rd l 0 0 3) := Lib.hid (rd_bad hkl (by omega) hh.out.1 hca (by rw [HC.out]; exact hend))
            have HK := Lib.hid (canEnd_no c0 k hcb0 hcb1 (by omega) hend)
            clear hend hca
            go_wp2_with fail
            refine (HK.out _).mono ?_
            rintro e w' ⟨rfl, rfl⟩
            go_wp2
            go_ret3
            exact gotU HR.out
      · obtain rfl : n = k := by omega
        by_cases hq : n < 10
        · have HR : Hid (Rd l 0 0 2) := Lib.hid (by
            have hl := HB.out.len
            exact rd_trunc (by omega) (by rw [hl]; exact hh.out.1))
          go_wp2
          go_ret3
          exact gotU HR.out
        · have HR : Hid (Rd l 0 0 3) := Lib.hid (by
            have hl := HB.out.len
            exact rd_long (by omega) (fun j hj => hh.out.1 j (by omega)))
          go_wp2
          go_ret3
          exact gotU HR.out
  · have hmx : max (10 : Int) 0 = 10 := by decide
    have hle : 10 < n := by omega
    go_enter Try.func71, Try.ntmps71
    go_wp2
    go_loop [5, 14] (fun x i => ∃ (k : Nat) (y : Int), k ≤ 10 ∧ i = .int .i64 k ∧ x = .int .u64 y ∧ 0 ≤ y ∧ y < 18446744073709551616 ∧ Hid ((∀ j, j < k → 128 ≤ l.getD j 0) ∧ (k ≤ 9 → y = val (l.take k))))
      (fun _ i => 10 - (intOf i).toNat)
    case atStart => exact ⟨0, 0, Nat.zero_le _, rfl, rfl, by omega, by omega, Lib.hid ⟨fun j hj => absurd hj (by omega), fun _ => by simp [val]⟩⟩
    case round =>
      obtain ⟨k, y, hk, rfl, rfl, hy0, hy1, hh⟩ := hrel
      by_cases hlt : k < 10
      · obtain ⟨b, o, rfl, _, hcell⟩ := HB.out.at_ (show k < n by omega)
        have hkl : k < l.length := by have := HB.out.len; omega
        obtain ⟨c0, hc0⟩ : ∃ c0, l.getD k 0 = c0 := ⟨_, rfl⟩
        rw [hc0] at hcell
        have hcb : 0 ≤ c0 ∧ c0 ≤ 255 := by
          rw [← hc0]
          refine HS.out _ ?_
          simp [List.getD, hkl]
        obtain ⟨hcb0, hcb1⟩ := hcb
        have HC := Lib.hid hc0
        clear hc0
        by_cases hbig : 128 ≤ c0
        · have k1 : (bits .and .u8 c0 128 == 0) = false := by rw [and128_8 c0 hcb0 hcb1, if_neg (by omega)]; rfl
          go_wp2
          go_round
          case rel =>
            obtain ⟨h1, h2⟩ := hh.out
            have hb := step_bd y c0 k hy0 hy1
            refine ⟨k + 1, _, by omega, by go_num, rfl, hb.1, hb.2, Lib.hid ⟨fun j hj => ?_, fun h9 => ?_⟩⟩
            · by_cases hjk : j < k
              · exact h1 j hjk
              · obtain rfl : j = k := by omega
                rw [HC.out]; exact hbig
            · exact step_val hkl HC.out (h2 (by omega)) hcb0 hcb1 (.inl (by omega))
          case measure => simp [intOf]; omega
        · have k1 : (bits .and .u8 c0 128 == 0) = true := by rw [and128_8 c0 hcb0 hcb1, if_pos (by omega)]; rfl
          have hca : l.getD k 0 < 128 := by rw [HC.out]; omega
          cases hend : endB c0 k with
          | true =>
            have HR : Hid (Rd l (bits .or .u64 y (IntKind.u64.wrap (IntKind.u64.wrap (bits .and .u8 c0 127) * 2 ^ (7 * k)))) ((k : Int) + 1) 0) := by
              obtain ⟨h1, h2⟩ := hh.out
              have h9 : k ≤ 8 ∨ (k = 9 ∧ c0 ≤ 1) := by
                unfold endB at hend
                rw [decide_eq_true_iff] at hend
                omega
              rw [step_val hkl HC.out (h2 (by omega)) hcb0 hcb1 h9]
              exact Lib.hid (rd_ok hkl (by omega) h1 hca (by rw [HC.out]; exact hend))
            have HK := Lib.hid (canEnd_yes c0 k hcb0 hcb1 (by omega) hend)
            clear hend hca
            go_wp2_with fail
            refine (HK.out _).mono ?_
            rintro e w' ⟨rfl, rfl⟩
            go_wp2
            go_ret3
            exact gotU HR.out
          | false =>
            have HR : Hid (Rd l 0 0 3) := Lib.hid (rd_bad hkl (by omega) hh.out.1 hca (by rw [HC.out]; exact hend))
            have HK := Lib.hid (canEnd_no c0 k hcb0 hcb1 (by omega) hend)
            clear hend hca
            go_wp2_with fail
            refine (HK.out _).mono ?_
            rintro e w' ⟨rfl, rfl⟩
            go_wp2
            go_ret3
            exact gotU HR.out
      · obtain rfl : k = 10 := by omega
        have HR : Hid (Rd l 0 0 3) := Lib.hid (by
          have hl := HB.out.len
          exact rd_long (by omega) hh.out.1)
        go_wp2
        go_ret3
        exact gotU HR.out
theorem uintR_any (A : Option Addr) (n c : Nat) (l : List Int) (w : World) {B : Nat} (h : Bts w B A n c l) (hs : Small l) (hn : n ≤ 1000000) :
    Calls Try.prog 76 #[.slice A n c] w (GotU w l) := by
  have HB := Lib.hid h
  have HS := Lib.hid hs
  have hcap := h.cap
  clear h hs
  go_enter Try.func76, Try.ntmps76
  go_wp2
  go_loop [5] (fun kv => ∃ k : Nat, k ≤ n ∧ k ≤ 10 ∧ kv = .int .i64 k ∧ Hid (∀ j, j < k → 128 ≤ l.getD j 0)) (fun kv => 10 - (intOf kv).toNat)
  case atStart => exact ⟨0, Nat.zero_le _, Nat.zero_le _, rfl, Lib.hid fun j hj => absurd hj (by omega)⟩
  case round =>
    obtain ⟨k, hkn, hk10, rfl, hh⟩ := hrel
    by_cases hlt : k < n
    · by_cases hlt10 : k < 10
      · obtain ⟨b, o, rfl, _, hcell⟩ := HB.out.at_ hlt
        have hkl : k < l.length := by have := HB.out.len; omega
        obtain ⟨c0, hc0⟩ : ∃ c0, l.getD k 0 = c0 := ⟨_, rfl⟩
        rw [hc0] at hcell
        have hcb : 0 ≤ c0 ∧ c0 ≤ 255 := by
          rw [← hc0]
          refine HS.out _ ?_
          simp [List.getD, hkl]
        obtain ⟨hcb0, hcb1⟩ := hcb
        have HC := Lib.hid hc0
        clear hc0
        by_cases hbig : 128 ≤ c0
        · go_wp2
          go_round
          case rel =>
            refine ⟨k + 1, by omega, by omega, by go_num, Lib.hid fun j hj => ?_⟩
            by_cases hjk : j < k
            · exact hh.out j hjk
            · obtain rfl : j = k := by omega
              rw [HC.out]; exact hbig
          case measure => simp [intOf]; omega
        · have hca : l.getD k 0 < 128 := by rw [HC.out]; omega
          have q1 : ((k : Int) == (n : Int)) = false := by rw [beq_eq_false_iff_ne]; omega
          have q2 : ((k : Int) == 10) = false := by rw [beq_eq_false_iff_ne]; omega
          cases hend : endB c0 k with
          | false =>
            have HR : Hid (Rd l 0 0 3) := Lib.hid (rd_bad hkl hlt10 hh.out hca (by rw [HC.out]; exact hend))
            unfold endB at hend
            rw [decide_eq_false_iff_not] at hend
            by_cases h9 : k = 9
            · have q3 : ((k : Int) == 9) = true := by simp [h9]
              have hcell9 : w.cell? ⟨b, o + 9, none⟩ = some (.int .u8 c0) := by rw [← hcell, h9]
              have q7 : 9 < n := by omega
              by_cases hz : c0 = 0
              · have q4 : ¬ (1 < c0) := by omega
                have q5 : (c0 == 0) = true := by simp [hz]
                have q6 : (0 : Int) < k := by omega
                clear hend hca h9 hz
                go_wp2
                go_ret3
                exact gotU HR.out
              · have q4 : 1 < c0 := by omega
                clear hend hca h9 hz
                go_wp2
                go_ret3
                exact gotU HR.out
            · have q3 : ((k : Int) == 9) = false := by rw [beq_eq_false_iff_ne]; omega
              have q5 : (c0 == 0) = true := by rw [beq_iff_eq]; omega
              have q6 : (0 : Int) < k := by omega
              clear hend hca h9
              go_wp2
              go_ret3
              exact gotU HR.out
          | true =>
            have hR := rd_ok hkl hlt10 hh.out hca (by rw [HC.out]; exact hend)
            have hv64 : val (l.take (k + 1)) < 18446744073709551616 := val_lt64 hlt10 hkl (fun h9 => by
              subst h9
              rw [HC.out]
              unfold endB at hend
              rw [decide_eq_true_iff] at hend
              omega)
            obtain ⟨L, hL⟩ : ∃ L, l.take (k + 1) = L := ⟨_, rfl⟩
            have hLl : L.length = k + 1 := by rw [← hL, List.length_take]; omega
            have HG : Hid (∀ j, j < k + 1 → L.getD j 0 = l.getD j 0) := Lib.hid fun j hj => by rw [← hL]; simp [List.getD, hj]
            rw [hL] at hR hv64
            have HR := Lib.hid hR
            have HL := Lib.hid hLl
            unfold endB at hend
            rw [decide_eq_true_iff] at hend
            have hcell9 : k = 9 → w.cell? ⟨b, o + 9, none⟩ = some (.int .u8 c0) := fun h9 => by rw [← hcell, h9]
            clear hR hL hLl hca
            have hways : (((k : Int) == 9) = false ∧ ¬ (0 : Int) < k) ∨ (((k : Int) == 9) = false ∧ (0 : Int) < k ∧ (c0 == 0) = false) ∨ (((k : Int) == 9) = true ∧ (0 : Int) < k ∧ 9 < n ∧ (c0 == 0) = false ∧ ¬ 1 < c0 ∧ w.cell? ⟨b, o + 9, none⟩ = some (.int .u8 c0)) := by
              simp only [beq_eq_false_iff_ne, beq_iff_eq]
              by_cases h9 : k = 9
              · exact .inr (.inr ⟨by omega, by omega, by omega, by omega, by omega, hcell9 h9⟩)
              · by_cases h0 : k = 0
                · exact .inl ⟨by omega, by omega⟩
                · exact .inr (.inl ⟨by omega, by omega, by omega⟩)
            clear hend hcell9
            rcases hways with ⟨q3, q4⟩ | ⟨q3, q4, q5⟩ | ⟨q3, q4, q5, q6, q7, q8⟩
            all_goals
              go_wp2
              go_loop [6, 7] (fun nv iv => ∃ (j : Nat) (y : Int), j ≤ k + 1 ∧ iv = .int .i64 ((j : Int) - 1) ∧ nv = .int .u64 y ∧ 0 ≤ y ∧ Hid (y = val (L.drop j))) (fun _ iv => (intOf iv + 1).toNat)
              case atStart => exact ⟨k + 1, 0, Nat.le_refl _, by go_num, rfl, Int.le_refl _, Lib.hid (by rw [List.drop_eq_nil_of_le (by rw [HL.out]; exact Nat.le_refl _)]; rfl)⟩
              case round =>
                obtain ⟨j, y, hj, rfl, rfl, hy0, hy⟩ := hrel
                rcases j with _ | i
                · have e0 : (((0 : Nat) : Int) - 1) = -1 := by omega
                  rw [e0]
                  have HR2 : Hid (Rd l y ((k : Int) + 1) 0) := Lib.hid (by rw [hy.out]; exact HR.out)
                  go_wp2
                  go_ret3
                  exact gotU HR2.out
                · have e0 : (((i + 1 : Nat) : Int) - 1) = (i : Int) := by omega
                  rw [e0]
                  clear e0
                  obtain ⟨b', o', e', _, hcell2⟩ := HB.out.at_ (show i < n by omega)
                  obtain ⟨rfl, rfl⟩ : b' = b ∧ o' = o := by
                    have e2 := Option.some.inj e'
                    simp only [Addr.mk.injEq] at e2
                    exact ⟨e2.1.symm, e2.2.1.symm⟩
                  obtain ⟨c1, hc1⟩ : ∃ c1, l.getD i 0 = c1 := ⟨_, rfl⟩
                  rw [hc1] at hcell2
                  have hst : val (L.drop i) = c1 % 128 + 128 * y := by
                    rw [val_drop_step (by rw [HL.out]; omega), HG.out i (by omega), hc1, hy.out]
                  have hle := val_drop_le L i
                  have hsum : y * 128 + c1 % 128 < 18446744073709551616 := by omega
                  have hc1b : 0 ≤ c1 ∧ c1 ≤ 255 := by
                    rw [← hc1]
                    refine HS.out _ ?_
                    simp [List.getD, show i < l.length by omega]
                  obtain ⟨hc10, hc11⟩ := hc1b
                  have hy1 : y * 128 < 18446744073709551616 := by omega
                  have HST := Lib.hid hst
                  clear hst hle hc1 e'
                  go_wp2
                  go_round
                  case rel => exact ⟨i, _, by omega, rfl, rfl, by omega, Lib.hid (by rw [HST.out]; omega)⟩
                  case measure => simp [intOf]
      · have q2 : ((k : Int) == 10) = true := by rw [beq_iff_eq]; omega
        have HR : Hid (Rd l 0 0 3) := Lib.hid (rd_long (by have := HB.out.len; omega) (fun j hj => hh.out j (by omega)))
        go_wp2
        go_ret3
        exact gotU HR.out
    · obtain rfl : n = k := by omega
      by_cases hq : n < 10
      · have HR : Hid (Rd l 0 0 2) := Lib.hid (by
          have hl := HB.out.len
          exact rd_trunc (by omega) (by rw [hl]; exact hh.out))
        go_wp2
        go_ret3
        exact gotU HR.out
      · have q2 : ((n : Int) == 10) = true := by rw [beq_iff_eq]; omega
        have HR : Hid (Rd l 0 0 3) := Lib.hid (rd_long (by have := HB.out.len; omega) (fun j hj => hh.out j (by omega)))
        go_wp2
        go_ret3
        exact gotU HR.out
end Go.Proofs.Ytlgoiccekgjhnaa
