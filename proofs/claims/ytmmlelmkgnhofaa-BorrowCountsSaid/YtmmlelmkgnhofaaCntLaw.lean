/-
  The law BorrowCounts as a walk: called with any arguments of its types it returns true. No conditions.
-/
import Derived.Test.YtmmlelmkgnhofaaCnb
namespace Go.Proofs.Ytmmlelmkgnhofaa
open Go.ChangeShapes Go.WideShapes Go.RowKit
set_option linter.unusedVariables false
set_option linter.unusedSimpArgs false
set_option maxHeartbeats 8000000
set_option maxRecDepth 100000

/-- A ledger that the law holds. -/
def Ct (w0 : World) (p : Nat) (L : List Bo) (w : World) : Prop := Below w0.heap.size w0 w ∧ ∃ c, Led w c 1 p L ∧ ∀ g, g < w0.heap.size → c g = 0
section
variable {w0 w w' : World} {p N : Nat} {L L' : List Bo} {o h m : Int}
theorem Ct.go (H : Ct w0 p L w) (hb : Below w.heap.size w w') : Ct w0 p L w' := by
  obtain ⟨hB, c, h1, h2⟩ := H
  exact ⟨Below.then hB hb (Nat.le_refl _), c, h1.go hb, h2⟩
theorem Ct.ld {c : Nat → Nat} {r : Value} {e : Ending} (hB : Below w0.heap.size w0 w) (hlo : ∀ g, g < w0.heap.size → c g = 0) (he : LdE w c 1 p r L' e w') : e = .returned r ∧ Ct w0 p L' w' := by
  obtain ⟨h1, h2, h3⟩ := he
  exact ⟨h1, hB.trans (h3.below (fun g hg => by rw [hlo g hg]; omega) hB.size), _, h2, fun g hg => by rw [rc_old (by have := hB.size; omega)]; exact hlo g hg⟩
theorem Ct.lend (H : Ct w0 p L w) (hW : Wl N L) (hN : N ≤ 100000) (ho : Ri o) : Calls Try.prog 16 #[.pointer (some ⟨p, 0, none⟩), .int .i64 o, .int .i64 h, .int .i64 m] w fun e w' => e = .returned (.int .i64 (lendE o m L)) ∧ Ct w0 p (lendL o h m L) w' := by
  obtain ⟨hB, c, h1, h2⟩ := H
  exact (lend_any h1 hW hN ho).mono fun e w' he => Ct.ld hB h2 he
theorem Ct.rel (H : Ct w0 p L w) (hW : Wl N L) (hN : N ≤ 100000) (ho : Ri o) : Calls Try.prog 18 #[.pointer (some ⟨p, 0, none⟩), .int .i64 o, .int .i64 h] w fun e w' => e = .returned (.int .i64 (relE o h L)) ∧ Ct w0 p (relL o h L) w' := by
  obtain ⟨hB, c, h1, h2⟩ := H
  exact (release_any h1 hW hN ho).mono fun e w' he => Ct.ld hB h2 he
theorem Ct.held (H : Ct w0 p L w) (hW : Wl N L) (hN : N ≤ 100000) : Calls Try.prog 28 #[.pointer (some ⟨p, 0, none⟩), .int .i64 h] w fun e w' => e = .returned (.int .i64 (heldN h L)) ∧ Ct w0 p L w' := by
  have H' := H
  obtain ⟨hB, c, h1, h2⟩ := H
  exact (held_any h1.toq hW.srt hW.ri (by have := hW.len; omega)).mono fun e w' he => ⟨he.1, H'.go he.2⟩
theorem Ct.holds (H : Ct w0 p L w) (hW : Wl N L) (hN : N ≤ 100000) (ho : Ri o) : Calls Try.prog 27 #[.pointer (some ⟨p, 0, none⟩), .int .i64 o, .int .i64 h] w fun e w' => e = .returned (.tuple #[boA (boV (hasL o h L)), .bool (hasL o h L).isSome]) ∧ Ct w0 p L w' := by
  have H' := H
  obtain ⟨hB, c, h1, h2⟩ := H
  exact (holds_any h1.toq ho hW.srt (by have := hW.len; omega)).mono fun e w' he => ⟨he.1, H'.go he.2⟩
end
theorem borrowCounts_walk (o h a2 : Int) (w : World) (w0 : (Lit.int .i64 o).wf = true) (w1 : (Lit.int .i64 h).wf = true) (w2 : (Lit.int .u8 a2).wf = true) :
    Calls Try.prog 7 #[.int .i64 o, .int .i64 h, .int .u8 a2] w fun e w' => e = .returned (.bool true) ∧ Below w.heap.size w w' := by
  have HO : Hid (Ri o) := Lib.hid w0
  have b2 := byte_bd w2
  have e3 := Int.emod_nonneg a2 (show (20 : Int) ≠ 0 by omega)
  have e4 := Int.emod_lt_of_pos a2 (show (0 : Int) < 20 by omega)
  have HN := Lib.hid (newL_any w (fun _ => 0) 1)
  clear w0 w1 w2
  go_enter Try.func7, Try.ntmps7
  go_wp2_with fail
  refine HN.out.mono ?_
  rintro e wa ⟨p, rfl, hp, hL, hb⟩
  have HP0 : Hid (Ct w p (cl o h 0) wa) := Lib.hid ⟨hb, _, hL, fun g hg => by rw [rc_old hg]⟩
  clear HN hL hb
  go_wp2
  obtain ⟨K, hK⟩ : ∃ K : Nat, 1 + a2 % 20 = K := ⟨(1 + a2 % 20).toNat, by omega⟩
  rw [hK]
  have hK1 : 1 ≤ K ∧ K ≤ 20 := by omega
  clear hK e3 e4
  go_loopw [9] (fun kv wr => ∃ i : Nat, i ≤ K ∧ kv = .int .i64 i ∧ Hid (Ct w p (cl o h i) wr)) (fun kv _ => K - (intOf kv).toNat)
  case atStart => exact ⟨0, by omega, rfl, HP0⟩
  case round =>
    obtain ⟨i, hi, rfl, hh⟩ := hrel
    have hi0 : (0 : Int) ≤ (i : Int) := by omega
    by_cases hin : i < K
    · have hi1 : (i : Int) < (K : Int) := by omega
      have HH := Lib.hid (hh.out.holds (h := h) (cl_wl (o := o) (h := h) (i := i) HO.out) (by omega) HO.out)
      obtain ⟨f1, f2⟩ := cl_has (o := o) (h := h) (i := i)
      rw [f1] at HH
      obtain ⟨⟨v0, v1, v2, v3⟩, hv⟩ : ∃ v, boV (hasL o h (cl o h i)) = v := ⟨_, rfl⟩
      rw [hv] at HH f2
      simp only at f2
      subst f2
      unfold boA at HH
      clear hv f1 hh
      go_wp2_with fail
      refine HH.out.mono ?_
      rintro e w2 ⟨rfl, hc⟩
      have HC : Hid (Ct w p (cl o h i) (w2.alloc (.cells #[.int .i64 v0, .int .i64 v1, .int .i64 v2, .int .i64 i] 47))) := Lib.hid (hc.go ((Below.refl _ _).alloc (Nat.le_refl _) _))
      have HX := Lib.hid (BoB.new (w := w2) (x := ⟨v0, v1, v2, i⟩))
      obtain ⟨k0, k1, k2, k3⟩ := HX.out.cells
      simp only at k3
      have HL1 := Lib.hid (HC.out.lend (h := h) (m := 1) (cl_wl (o := o) (h := h) (i := i) HO.out) (by omega) HO.out)
      rw [cl_lend.1, cl_lend.2] at HL1
      clear hc HH HX k0 k1 k2
      go_wp2_with fail
      generalize w2.alloc (.cells #[.int .i64 v0, .int .i64 v1, .int .i64 v2, .int .i64 i] 47) = w3 at *
      refine HL1.out.mono ?_
      rintro e w4 ⟨rfl, hc⟩
      have HC4 := Lib.hid hc
      have HL2 := Lib.hid (hc.lend (h := h) (m := 2) (cl_wl (o := o) (h := h) (i := i + 1) HO.out) (by omega) HO.out)
      rw [cl_excl.1, cl_excl.2] at HL2
      clear hc HL1 HC k3
      go_wp2_with fail
      refine HL2.out.mono ?_
      rintro e w5 ⟨rfl, hc⟩
      have HL3 := Lib.hid (hc.held (h := h) (cl_wl (o := o) (h := h) (i := i + 1) HO.out) (by omega))
      rw [cl_held] at HL3
      clear hc HL2 HC4
      go_wp2_with fail
      refine HL3.out.mono ?_
      rintro e w6 ⟨rfl, hc⟩
      have HC6 := Lib.hid hc
      clear hc HL3
      go_wp2
      go_roundw
      case rel => exact ⟨i + 1, by omega, by go_num, HC6⟩
      case measure => simp [intOf]; omega
    · obtain rfl : i = K := by omega
      have hi1 : ¬ (i : Int) < (i : Int) := by omega
      have HC := hh
      clear hh
      go_wp2
      go_loopw [12] (fun kv wr => ∃ j : Nat, j ≤ i ∧ kv = .int .i64 j ∧ Hid (Ct w p (cl o h (i - j)) wr)) (fun kv _ => i - (intOf kv).toNat)
      case atStart => exact ⟨0, by omega, rfl, HC⟩
      case round =>
        obtain ⟨j, hj, rfl, hh⟩ := hrel
        have hj0 : (0 : Int) ≤ (j : Int) := by omega
        by_cases hjn : j < i
        · have hj1 : (j : Int) < (i : Int) := by omega
          obtain ⟨n, hn⟩ : ∃ n, i - j = n + 1 := ⟨i - j - 1, by omega⟩
          rw [hn] at hh
          have HR := Lib.hid (hh.out.rel (h := h) (cl_wl (o := o) (h := h) (i := n + 1) HO.out) (by omega) HO.out)
          rw [cl_rel.1, cl_rel.2] at HR
          clear hh
          go_wp2_with fail
          refine HR.out.mono ?_
          rintro e w4 ⟨rfl, hc⟩
          have HC4 : Hid (Ct w p (cl o h (i - (j + 1))) w4) := Lib.hid (by rw [show i - (j + 1) = n by omega]; exact hc)
          clear hc HR
          go_wp2
          go_roundw
          case rel => exact ⟨j + 1, by omega, by go_num, HC4⟩
          case measure => simp [intOf]; omega
        · obtain rfl : j = i := by omega
          have hj1 : ¬ (j : Int) < (j : Int) := by omega
          rw [Nat.sub_self, cl_z] at hh
          have HC2 := hh
          clear hh
          go_wp2_with fail
          refine (awake14_any wr).mono ?_
          rintro e w7 ⟨rfl, hb7⟩
          have HC7 := Lib.hid (HC2.out.go hb7)
          have HR := Lib.hid (HC7.out.rel (o := o) (h := h) (Wl.nil (N := 0)) (by omega) HO.out)
          rw [rel_nil.1, rel_nil.2.1] at HR
          clear hb7 HC2
          go_wp2_with fail
          refine HR.out.mono ?_
          rintro e w8 ⟨rfl, hc⟩
          have HR2 := Lib.hid (hc.held (h := h) (Wl.nil (N := 0)) (by omega))
          rw [(rel_nil (o := o) (h := h)).2.2] at HR2
          clear hc HR HC7
          go_wp2_with fail
          refine HR2.out.mono ?_
          rintro e w9 ⟨rfl, hc⟩
          have HR3 := Lib.hid (hc.lend (o := o) (h := h) (m := 2) (Wl.nil (N := 0)) (by omega) HO.out)
          rw [(cx_one (o := o) (h := h)).1, (cx_one (o := o) (h := h)).2] at HR3
          clear hc HR2
          go_wp2_with fail
          refine HR3.out.mono ?_
          rintro e w10 ⟨rfl, hc⟩
          have HR4 := Lib.hid (hc.lend (o := o) (h := h) (m := 1) (cx_wl HO.out) (by omega) HO.out)
          rw [cx_two] at HR4
          clear hc HR3
          go_wp2_with fail
          refine HR4.out.mono ?_
          rintro e w11 ⟨rfl, hc⟩
          have HB := Lib.hid hc.1
          clear hc HR4
          go_wp2
          go_ret
          exact ⟨rfl, HB.out⟩
end Go.Proofs.Ytmmlelmkgnhofaa
