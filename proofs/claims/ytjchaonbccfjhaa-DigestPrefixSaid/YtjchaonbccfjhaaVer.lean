/-
  Contracts of the reference's check of a chain and of its comparison of lists: what they return is what the plain functions of the text Fnv say; nothing that was there changes. Conditions: at most a thousand records of at most a thousand bytes each; the lists that are compared are equal.
-/
import Derived.Test.YtjchaonbccfjhaaDig
namespace Go.Proofs.Ytjchaonbccfjhaa
open Go.ChangeShapes Go.WideShapes Go.ChangeAt Go.RowKit
set_option maxHeartbeats 400000
set_option maxRecDepth 100000

theorem same_any (A : Option Addr) (n c : Nat) (l : List Int) (A2 : Option Addr) (n2 c2 : Nat) (w : World) (h : Row w w.heap.size A n c (iv .u64 l)) (h2 : Row w w.heap.size A2 n2 c2 (iv .u64 l)) :
    Calls Try.prog 15 #[.slice A n c, .slice A2 n2 c2] w (Yes w) := by
  obtain rfl : n = n2 := by rw [← h.len, ← h2.len]
  have hcap := h.cap
  have hsm := h.small
  have hcap2 := h2.cap
  have hsm2 := h2.small
  unfold maxLen at hsm hsm2
  have H1 := Lib.hid h
  have H2 := Lib.hid h2
  clear h h2
  go_enter Try.func15, Try.ntmps15
  go_wp2
  go_loopw [5] (fun i wr => ∃ (k : Nat), k ≤ n ∧ i = .int .i64 k ∧ Hid (Below w.heap.size w wr)) (fun i _ => n - (intOf i).toNat)
  case atStart => exact ⟨0, Nat.zero_le _, rfl, Lib.hid (Below.refl _ _)⟩
  case round =>
    obtain ⟨k, hk, rfl, HW⟩ := hrel
    by_cases hlt : k < n
    · obtain ⟨b, o, rfl, _, hcell⟩ := (H1.out.below HW.out).int hlt
      obtain ⟨b', o', rfl, _, hcell'⟩ := (H2.out.below HW.out).int hlt
      generalize l.getD k 0 = x at *
      go_wp2
      go_quiet (fail)
      go_wp2
      exact ⟨⟨k + 1, by omega, by go_num, Lib.hid (below_drewN HW.out _)⟩, by simp [intOf]; omega⟩
    · go_wp2
      go_ret
      exact ⟨rfl, HW.out⟩

theorem verifyR_any (A : Option Addr) (n c : Nat) (rs : List Rec) (A2 : Option Addr) (n2 c2 : Nat) (m : List Int) (w : World) (h : Arg w A n c rs) (hn : n ≤ 1000) (hs : Short 1000 rs) (hm : Row w w.heap.size A2 n2 c2 (iv .u64 m)) :
    Calls Try.prog 19 #[.slice A n c, .slice A2 n2 c2] w (Pair w (verR (dig start (bs rs)) m)) := by
  have HD := Lib.hid (digestsR_any A n c rs w h hn hs)
  have hcap := h.row.cap
  have hsm := h.row.small
  have hcap2 := hm.cap
  have hsm2 := hm.small
  have hl1 : (dig start (bs rs)).length = n := by rw [dig_len, bs_len, h.len]
  have hl2 : m.length = n2 := by have := hm.len; rwa [iv_len] at this
  have HM := Lib.hid hm
  unfold maxLen at hsm hsm2
  clear h hs hm
  generalize dig start (bs rs) = D at *
  by_cases he : n = n2
  · subst he
    have HV : Hid (verR D m = ver 0 (D.drop 0) (m.drop 0)) := Lib.hid (by unfold verR; rw [if_pos (by omega)]; rfl)
    have HL1 := Lib.hid hl1
    have HL2 := Lib.hid hl2
    clear hl1 hl2
    go_enter Try.func19, Try.ntmps19
    go_wp2_with fail
    refine HD.out.mono ?_
    rintro e w1 ⟨v1, rfl, ho1, hb1⟩
    obtain ⟨A3, n3, c3, rfl, hB3⟩ := ho1.shape
    obtain rfl : n3 = n := by have := hB3.len; rw [iv_len, HL1.out] at this; exact this.symm
    have hcap3 := hB3.cap
    have hsm3 := hB3.small
    unfold maxLen at hsm3
    have HB3 := Lib.hid hB3
    have HM1 := Lib.hid (HM.out.go hb1)
    have HW1 := Lib.hid hb1
    clear HD ho1 hB3 hb1 HM
    go_wp2
    go_loopw [7] (fun i wr => ∃ (k : Nat), k ≤ n3 ∧ i = .int .i64 k ∧ Hid (verR D m = ver k (D.drop k) (m.drop k)) ∧ Hid (Below w1.heap.size w1 wr)) (fun i _ => n3 - (intOf i).toNat)
    case atStart => exact ⟨0, Nat.zero_le _, rfl, HV, Lib.hid (Below.refl _ _)⟩
    case round =>
      clear HV
      obtain ⟨k, hk, rfl, HV, HW⟩ := hrel
      by_cases hlt : k < n3
      · obtain ⟨b, o, rfl, _, hcell⟩ := (HB3.out.below HW.out).int hlt
        obtain ⟨b', o', rfl, _, hcell'⟩ := (HM1.out.below HW.out).int hlt
        have HQ := Lib.hid (ver_drop (l := D) (m := m) (k := k) (by rw [HL1.out]; exact hlt) (by rw [HL2.out]; exact hlt))
        generalize D.getD k 0 = x at *
        generalize m.getD k 0 = y at *
        by_cases hxy : x = y
        · subst hxy
          go_wp2
          go_quiet (fail)
          go_wp2
          exact ⟨⟨k + 1, by omega, by go_num, Lib.hid (by rw [HV.out, HQ.out]; simp), Lib.hid (below_drewN HW.out _)⟩, by simp [intOf]; omega⟩
        · have k1 : (x != y) = true := by rw [bne_iff_ne]; exact hxy
          have HZ := Lib.hid hxy
          clear hxy
          go_wp2
          go_quiet (fail)
          go_wp2
          go_ret2
          exact pair_of (by rw [HV.out, HQ.out, if_neg HZ.out]) (HW1.out.trans ((below_drewN HW.out _).mono HW1.out.size))
      · have HE : Hid (verR D m = (-1, 0)) := Lib.hid (by rw [HV.out, ver_end (by rw [HL1.out]; omega)])
        go_wp2
        go_ret2
        exact pair_of HE.out (HW1.out.trans (HW.out.mono HW1.out.size))
  · have HV : Hid (verR D m = (-1, 1)) := Lib.hid (by unfold verR; rw [if_neg (by omega)])
    have k1 : ((n : Int) != (n2 : Int)) = true := by rw [bne_iff_ne]; omega
    clear hl1 hl2
    go_enter Try.func19, Try.ntmps19
    go_wp2
    go_ret2
    exact pair_of HV.out (Below.refl _ _)
end Go.Proofs.Ytjchaonbccfjhaa
