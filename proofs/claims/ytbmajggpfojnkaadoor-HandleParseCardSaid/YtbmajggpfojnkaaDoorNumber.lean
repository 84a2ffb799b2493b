/-
  Contract of the reference function Number: the number that a text names, or false. Conditions: texts of at most 1000 bytes, a bound below 2^32.
-/
import Derived.Test.YtbmajggpfojnkaaDoorDec
namespace Go.Proofs.YtbmajggpfojnkaaDoor
open Go.ChangeShapes Go.WideShapes Go.ChangeAt Go.RowKit
set_option maxRecDepth 100000
set_option maxHeartbeats 2000000
/-- The number that was read, if all went well. -/
def okOf : Lib.NumEnd Nat → Option Nat
  | .ok u => some u
  | _ => none
/-- The loop of Number, once the text is known to be not empty and without a leading zero. -/
theorem number_core (M : Nat) (hM : M ≤ 4294967295) (s : ByteArray) (hs : s.size ≤ 1000) (h0 : 0 < s.size) (hl : lead0 s.data.toList = false) (w : World) :
    Calls Tryd.prog 31 #[.string s, .int .u64 M] w fun e w' => e = .returned (.tuple #[.int .u64 (partW (numP M s.data.toList)), .bool (partB (numP M s.data.toList))]) ∧ w = w' := by
  have hne : s.data.toList ≠ [] := fun h => by rw [Lib.size_eq, h] at h0; simp at h0
  have hn : numP M s.data.toList = okOf (Lib.parseUintM M 0 s.data.toList) := by
    unfold numP; rw [hl, if_neg (by simp), if_neg hne]
    cases Lib.parseUintM M 0 s.data.toList <;> rfl
  have HN := Lib.hid hn
  clear hn
  generalize numP M s.data.toList = o at *
  have hem := isEmpty_f s (by omega)
  have hc0 : 1 < s.size → ((s[0].toNat : Int) == 48) = false := by
    intro h1
    rw [lead0_of] at hl
    rw [beq_eq_false_iff_ne]
    intro h
    exact absurd hl (by rw [Bool.not_eq_false, Bool.and_eq_true, decide_eq_true_eq, decide_eq_true_eq]; exact ⟨h1, by omega, by omega⟩)
  clear hl hne
  by_cases h1 : 1 < s.size
  · have k0 := hc0 h1
    clear hc0
    go_enter Tryd.func31, Tryd.ntmps31
    go_wp2
    go_loop [6, 7] (fun vn vi => ∃ (k acc : Nat), vn = .int .u64 acc ∧ vi = .int .i64 k ∧ k ≤ s.size ∧ acc ≤ M ∧ Hid (Lib.parseUintM M 0 s.data.toList = Lib.parseUintM M acc (s.data.toList.drop k))) (fun _ vi => s.size - (intOf vi).toNat)
    case atStart => exact ⟨0, 0, rfl, rfl, by omega, by omega, Lib.hid rfl⟩
    case round =>
      obtain ⟨k, acc, rfl, rfl, hk, hacc, hh⟩ := hrel
      by_cases hkn : k < s.size
      · have hc256 : s[k].toNat < 256 := s[k].toNat_lt
        have hd := hh.out
        rw [at_list s k hkn] at hd
        by_cases hdig : 48 ≤ s[k].toNat ∧ s[k].toNat ≤ 57
        · obtain ⟨hd0, hd1⟩ := hdig
          have hcut : ¬ 1844674407370955162 ≤ acc := by omega
          by_cases hov : M < acc * 10 + (s[k].toNat - 48)
          · have hF : okOf (Lib.parseUintM M 0 s.data.toList) = none := by
              rw [hd, Lib.parseUintM, if_pos ⟨hd0, hd1⟩, if_neg hcut, if_pos hov]; rfl
            rw [← HN.out] at hF
            subst hF
            have iov : (M : Int) < 10 * (acc : Int) + ((s[k].toNat : Int) - 48) := by omega
            clear hcut hov hd hh HN
            go_wp2
            go_ret2
            exact ⟨rfl, rfl⟩
          · have hF : Lib.parseUintM M 0 s.data.toList = Lib.parseUintM M (acc * 10 + (s[k].toNat - 48)) (s.data.toList.drop (k + 1)) := by
              rw [hd, Lib.parseUintM, if_pos ⟨hd0, hd1⟩, if_neg hcut, if_neg hov]
            have HF := Lib.hid hF
            have iov : 10 * (acc : Int) + ((s[k].toNat : Int) - 48) ≤ (M : Int) := by omega
            have hov2 : acc * 10 + (s[k].toNat - 48) ≤ M := by omega
            have HE : Hid (10 * (acc : Int) + ((s[k].toNat : Int) - 48) = ((acc * 10 + (s[k].toNat - 48) : Nat) : Int)) := Lib.hid (by omega)
            clear hcut hov hd hh hF
            go_wp2
            refine ⟨⟨k + 1, acc * 10 + (s[k].toNat - 48), ?_, by first | rfl | (congr 1; omega), by omega, hov2, HF⟩, by simp [intOf]; omega⟩
            rw [← HE.out]
        · have hF : okOf (Lib.parseUintM M 0 s.data.toList) = none := by
            rw [hd, Lib.parseUintM, if_neg hdig]; rfl
          rw [← HN.out] at hF
          subst hF
          clear hd hh HN
          by_cases hlo : 48 ≤ s[k].toNat
          · have hhi : 57 < s[k].toNat := by omega
            clear hdig
            go_wp2
            go_ret2
            exact ⟨rfl, rfl⟩
          · have hhi : s[k].toNat < 48 := by omega
            clear hdig hlo
            go_wp2
            go_ret2
            exact ⟨rfl, rfl⟩
      · have hkk : k = s.size := by omega
        subst hkk
        have hF : okOf (Lib.parseUintM M 0 s.data.toList) = some acc := by
          rw [hh.out, List.drop_eq_nil_of_le (by rw [← Lib.size_eq]; omega)]; rfl
        rw [← HN.out] at hF
        subst hF
        clear hh HN
        go_wp2
        go_ret2
        exact ⟨rfl, rfl⟩
  · clear hc0
    go_enter Tryd.func31, Tryd.ntmps31
    go_wp2
    go_loop [6, 7] (fun vn vi => ∃ (k acc : Nat), vn = .int .u64 acc ∧ vi = .int .i64 k ∧ k ≤ s.size ∧ acc ≤ M ∧ Hid (Lib.parseUintM M 0 s.data.toList = Lib.parseUintM M acc (s.data.toList.drop k))) (fun _ vi => s.size - (intOf vi).toNat)
    case atStart => exact ⟨0, 0, rfl, rfl, by omega, by omega, Lib.hid rfl⟩
    case round =>
      obtain ⟨k, acc, rfl, rfl, hk, hacc, hh⟩ := hrel
      by_cases hkn : k < s.size
      · have hc256 : s[k].toNat < 256 := s[k].toNat_lt
        have hd := hh.out
        rw [at_list s k hkn] at hd
        by_cases hdig : 48 ≤ s[k].toNat ∧ s[k].toNat ≤ 57
        · obtain ⟨hd0, hd1⟩ := hdig
          have hcut : ¬ 1844674407370955162 ≤ acc := by omega
          by_cases hov : M < acc * 10 + (s[k].toNat - 48)
          · have hF : okOf (Lib.parseUintM M 0 s.data.toList) = none := by
              rw [hd, Lib.parseUintM, if_pos ⟨hd0, hd1⟩, if_neg hcut, if_pos hov]; rfl
            rw [← HN.out] at hF
            subst hF
            have iov : (M : Int) < 10 * (acc : Int) + ((s[k].toNat : Int) - 48) := by omega
            clear hcut hov hd hh HN
            go_wp2
            go_ret2
            exact ⟨rfl, rfl⟩
          · have hF : Lib.parseUintM M 0 s.data.toList = Lib.parseUintM M (acc * 10 + (s[k].toNat - 48)) (s.data.toList.drop (k + 1)) := by
              rw [hd, Lib.parseUintM, if_pos ⟨hd0, hd1⟩, if_neg hcut, if_neg hov]
            have HF := Lib.hid hF
            have iov : 10 * (acc : Int) + ((s[k].toNat : Int) - 48) ≤ (M : Int) := by omega
            have hov2 : acc * 10 + (s[k].toNat - 48) ≤ M := by omega
            have HE : Hid (10 * (acc : Int) + ((s[k].toNat : Int) - 48) = ((acc * 10 + (s[k].toNat - 48) : Nat) : Int)) := Lib.hid (by omega)
            clear hcut hov hd hh hF
            go_wp2
            refine ⟨⟨k + 1, acc * 10 + (s[k].toNat - 48), ?_, by first | rfl | (congr 1; omega), by omega, hov2, HF⟩, by simp [intOf]; omega⟩
            rw [← HE.out]
        · have hF : okOf (Lib.parseUintM M 0 s.data.toList) = none := by
            rw [hd, Lib.parseUintM, if_neg hdig]; rfl
          rw [← HN.out] at hF
          subst hF
          clear hd hh HN
          by_cases hlo : 48 ≤ s[k].toNat
          · have hhi : 57 < s[k].toNat := by omega
            clear hdig
            go_wp2
            go_ret2
            exact ⟨rfl, rfl⟩
          · have hhi : s[k].toNat < 48 := by omega
            clear hdig hlo
            go_wp2
            go_ret2
            exact ⟨rfl, rfl⟩
      · have hkk : k = s.size := by omega
        subst hkk
        have hF : okOf (Lib.parseUintM M 0 s.data.toList) = some acc := by
          rw [hh.out, List.drop_eq_nil_of_le (by rw [← Lib.size_eq]; omega)]; rfl
        rw [← HN.out] at hF
        subst hF
        clear hh HN
        go_wp2
        go_ret2
        exact ⟨rfl, rfl⟩

theorem number_any (M : Nat) (hM : M ≤ 4294967295) (s : ByteArray) (hs : s.size ≤ 1000) (w : World) :
    Calls Tryd.prog 31 #[.string s, .int .u64 M] w fun e w' => e = .returned (.tuple #[.int .u64 (partW (numP M s.data.toList)), .bool (partB (numP M s.data.toList))]) ∧ w = w' := by
  by_cases h0 : s.size = 0
  · obtain rfl : s = ⟨#[]⟩ := by
      apply ByteArray.ext
      exact Array.eq_empty_of_size_eq_zero h0
    rw [numP_nil]
    go_enter Tryd.func31, Tryd.ntmps31
    go_wp2
    go_ret2
    exact ⟨rfl, rfl⟩
  · cases hl : lead0 s.data.toList
    · exact number_core M hM s hs (by omega) hl w
    · have hn : numP M s.data.toList = none := by unfold numP; rw [hl, if_pos rfl]
      rw [hn]
      rw [lead0_of] at hl
      simp only [Bool.and_eq_true, decide_eq_true_eq] at hl
      obtain ⟨h1, h2, h3⟩ := hl
      have k1 : ((s[0].toNat : Int) == 48) = true := by rw [beq_iff_eq]; omega
      have hem := isEmpty_f s (by omega)
      clear h3 hn
      go_enter Tryd.func31, Tryd.ntmps31
      go_wp2
      go_ret2
      exact ⟨rfl, rfl⟩
end Go.Proofs.YtbmajggpfojnkaaDoor
