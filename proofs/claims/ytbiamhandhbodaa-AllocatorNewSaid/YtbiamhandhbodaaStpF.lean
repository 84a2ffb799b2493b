/-
  Contract of the laws' step, where it frees; and of a step of any kind. Conditions: at most eight hundred extents.
-/
import Derived.Test.YtbiamhandhbodaaStpA
import Derived.Deep.RegionWith
import Derived.BigRegion
namespace Go.Proofs.Ytbiamhandhbodaa
open Go.ChangeShapes Go.WideShapes Go.ChangeAt Go.RowKit
set_option maxHeartbeats 8000000
set_option maxRecDepth 100000

theorem freeR_yes {c : Nat → Nat} {k q : Nat} {n x y : Int} {U : List (Int × Int)} {w : World} (h : Mdl w c k q n U) (hU : U.length ≤ 900) (hm : (x, y) ∈ U) :
    Calls Try.prog 32 #[.pointer (some ⟨q, 0, none⟩), .agg #[.int .i64 x, .int .i64 y]] w fun e w' => e = .returned (.int .i64 0) ∧ Mdl w' (rc c w.heap.size k) k q n (wo U (x, y)) ∧ Kept c k w w' :=
  (freeR_any c k q n x y U w h hU).mono fun _ _ h => h.elim (fun h => absurd hm h.1) (fun h => h.2)
theorem stepF_any (a b d : Int) (w : World) (c : Nat → Nat) (p q : Nat) (n : Int) (F A U L : List (Int × Int)) (Ae : Option Addr) (ne ce : Nat) (h : St w c p q n F A U L (.slice Ae ne ce)) (hU : U.length ≤ 800) (hL : L.length ≤ 800) (ha : 0 ≤ a ∧ a ≤ 255) (hb' : 0 ≤ b ∧ b ≤ 255) (hd : 0 ≤ d ∧ d ≤ 255) (h5 : ¬ a % 5 < 3) :
    Calls Try.prog 11 #[.pointer (some ⟨p, 0, none⟩), .pointer (some ⟨q, 0, none⟩), .agg #[.int .u8 a, .int .u8 b, .int .u8 d], .slice Ae ne ce] w (StepE w c p q n U L) := by
  have hb0 : Below w.heap.size w (w.alloc (.cells #[.int .u8 a, .int .u8 b, .int .u8 d] 35)) := (Below.refl _ _).alloc (Nat.le_refl _) _
  have HB0 := Lib.hid hb0
  have HS := Lib.hid h
  have HS1 := Lib.hid (h.recol (c' := rc c w.heap.size 9) (fun g hg => rc_old hg))
  have hA := h.len
  have hne : ne ≤ 800 := by have := h.ev.exs.len; omega
  have hF : F.length ≤ 1000000 := by have := gd_flen h.gd; omega
  obtain ⟨a0, a1⟩ := ha
  obtain ⟨b0, b1⟩ := hb'
  obtain ⟨d0, d1⟩ := hd
  have HPK := Lib.hid (pick_any Ae ne ce L b d _ ((h.ev.exs).go hb0) h.evp (by omega) b0 d0 d1)
  clear h hb0
  go_enter Try.func11, Try.ntmps11
  go_wp2_with fail
  refine HPK.out.mono ?_
  rintro e w2 ⟨x, y, rfl, hx64, hy64, hb⟩
  have HB2 := Lib.hid (Below.then HB0.out hb (Nat.le_refl _))
  clear hb HB0 HPK
  have hb3 : Below w2.heap.size w2 (w2.alloc (.cells #[.int .i64 x, .int .i64 y] 39)) := (Below.refl _ _).alloc (Nat.le_refl _) _
  have HE3 := Lib.hid (Box.new (w := w2) (x := x) (y := y))
  have HB3 := Lib.hid (Below.then HB2.out hb3 (Nat.le_refl _))
  have hw2 : w.heap.size ≤ w2.heap.size := HB2.out.size
  clear hb3 HB2
  go_wp2_with fail
  generalize w2.alloc (.cells #[.int .i64 x, .int .i64 y] 39) = w3 at *
  have k1 : ∀ m : Later w3, m.val.cell? ⟨w2.heap.size, 0, none⟩ = some (.int .i64 x) := fun m => later_old m HE3.out.cell0
  have k2 : ∀ m : Later w3, m.val.cell? ⟨w2.heap.size, 1, none⟩ = some (.int .i64 y) := fun m => later_old m HE3.out.cell1
  have HH1 := Lib.hid (fun m : Later w3 => has_alc (rc c w.heap.size 9) 1 p F A n x y m.val (HS1.out.al.go (Below.then HB3.out m.2 (Nat.le_refl _))) HS1.out.gd (by omega))
  have HH2 := Lib.hid (fun m : Later w3 => hasR_any (rc c w.heap.size 9) 2 q n x y U m.val (HS1.out.mo.go (Below.then HB3.out m.2 (Nat.le_refl _))) (by omega))
  have hdec : decide ((x, y) ∈ U) = decide ((x, y) ∈ A) := by
    by_cases hm : (x, y) ∈ A
    · rw [decide_eq_true hm, decide_eq_true (HS1.out.pm.mem_iff.1 hm)]
    · rw [decide_eq_false hm, decide_eq_false (fun h => hm (HS1.out.pm.mem_iff.2 h))]
  rw [hdec] at HH2
  generalize hrr : decide ((x, y) ∈ A) = r at *
  have HRR := Lib.hid hrr
  clear hdec hrr
  refine wp_region_later (by kernel_rfl) (by kernel_rfl) ?_
  repeat (go_big_quiet_step (first | (go_at_call 17; exact Calls.later (HH1.out _)) | (go_at_call 31; exact Calls.later (HH2.out _))))
  refine wpQuiet_nil ?_
  rintro w4 ⟨⟨_, hq⟩, rfl⟩
  have HB4 := Lib.hid (Below.then HB3.out hq (Nat.le_refl _))
  have HE4 := Lib.hid (HE3.out.go hq)
  clear hq HB3 HE3 HH1 HH2 k1 k2
  have hrb : (r != r) = false := by simp
  by_cases hm : (x, y) ∈ A
  · obtain ⟨i, hi⟩ := List.mem_iff_getElem?.1 hm
    have HI := Lib.hid hi
    obtain ⟨g1, g2, g3⟩ := gd_free HS1.out.gd hi
    have HGD := Lib.hid g1
    have HPM : Hid ((A.take i ++ A.drop (i + 1)).Perm (wo U (x, y))) := Lib.hid (perm_cut HS1.out.gd HS1.out.pm hi)
    have HMU : Hid ((x, y) ∈ U) := Lib.hid (HS1.out.pm.mem_iff.1 hm)
    have hwo : (wo U (x, y)).length ≤ U.length := wo_le
    have hdr : Below w4.heap.size w4 w4.drew := below_drewN (Below.refl _ _) 1
    have HS4 := Lib.hid (HS1.out.go (Below.then HB4.out hdr (Nat.le_refl _)))
    have HFy := Lib.hid (free_yes (rc c w.heap.size 9) 1 p i F A n x y w4.drew HS4.out.al HS1.out.gd (by omega) hi)
    have HE4' := Lib.hid (HE4.out.go hdr)
    have k1 := HE4.out.cell0
    have k2 := HE4.out.cell1
    have hz4 : w2.heap.size < w4.heap.size := HE4.out.lt
    have hw4 : w.heap.size ≤ w4.heap.size := HB4.out.size
    clear hm hi g1 g2 g3 hdr
    go_wp2_with fail
    go_region_with
      (first
        | (go_at_call 16
           refine HFy.out.mono ?_
           rintro e w5 ⟨rfl, hal5, hk5⟩
           have HAL5 := Lib.hid hal5
           have HK5 := Lib.hid hk5
           have HE5 : Hid (Box w5 w2.heap.size x y) := Lib.hid ((hk5.block _ hz4 (by rw [rc_new hw2]; omega)).trans HE4'.out)
           have HM5 := Lib.hid (HS4.out.mo.kept (c' := rc (rc c w.heap.size 9) w4.heap.size 1) hk5 (by omega) (fun g hg => rc_old hg))
           have m1 := HE5.out.cell0
           have m2 := HE5.out.cell1
           clear hal5 hk5)
        | (go_at_call 32
           refine (freeR_yes HM5.out (by omega) HMU.out).mono ?_
           rintro e w6 ⟨rfl, hm6, hk6⟩
           have HM6 := Lib.hid hm6
           have HK6 := Lib.hid hk6
           have HAL6 := Lib.hid (HAL5.out.kept (c' := rc (rc (rc c w.heap.size 9) w4.heap.size 1) w5.heap.size 2) hk6 (by omega) (fun g hg => rc_old hg))
           have HE6 : Hid (Box w6 w2.heap.size x y) := Lib.hid ((hk6.block _ HE5.out.lt (by rw [rc_old hz4, rc_new hw2]; omega)).trans HE5.out)
           have r1 := HE6.out.cell0
           have r2 := HE6.out.cell1
           clear hm6 hk6)
        | (go_at_call 10
           refine (alike_any w6 (rc (rc (rc c w.heap.size 9) w4.heap.size 1) w5.heap.size 2) p q n _ _ _ HAL6.out HM6.out HGD.out HPM.out (by omega)).mono ?_
           rintro e w7 ⟨rfl, hb7⟩
           have HB7 := Lib.hid hb7
           clear hb7))
    all_goals
      have hz5 : w4.heap.size ≤ w5.heap.size := HK5.out.size
      clear r1 r2 m1 m2 k1 k2
      go_wp2
      go_ret2
      refine ⟨rc (rc (rc c w.heap.size 9) w4.heap.size 1) w5.heap.size 2, _, _, _, L, _, rfl, ⟨HAL6.out.go HB7.out, HM6.out.go HB7.out, HGD.out, HPM.out, ?_, fun g hg => ?_, HS.out.evp⟩, by omega, by omega, ?_, fun g hg => ?_⟩
      · refine OwnE.below (OwnE.keptC (HS4.out.ev.keptC HK5.out (fun g hg => ?_)) HK6.out (fun g hg => ?_)) HB7.out
        · have := HS4.out.evc g hg; omega
        · have h1 := HS4.out.evc g hg
          have h2 := HS.out.ev.blk_lt hg
          rw [rc_old (by omega)]
          omega
      · have h1 := HS4.out.evc g hg
        have h2 := HS.out.ev.blk_lt hg
        rw [rc_old (by omega), rc_old (by omega)]
        exact h1
      · refine Fr.trans (Fr.trans (Fr.trans (Fr.ofBelow (c := c) (Below.then HB4.out (below_drewN (Below.refl _ _) 1) (Nat.le_refl _))) (Fr.ofKept HK5.out (by omega)) (fun g hg => rc_old hg)) (Fr.ofKept HK6.out (by omega)) (fun g hg => ?_)) (Fr.ofBelow (c := c) HB7.out) (fun _ _ => rfl)
        rw [rc_old (by omega), rc_old (by omega)]
      · rw [rc_old (by omega), rc_old (by omega), rc_old (by omega)]
  · have HFn := Lib.hid (fun m : Later w4 => free_no (rc c w.heap.size 9) 1 p F A n x y m.val (HS1.out.al.go (Below.then HB4.out m.2 (Nat.le_refl _))) HS1.out.gd (by omega) hm)
    have HRn : Hid (∀ m : Later w4, Calls Try.prog 32 #[.pointer (some ⟨q, 0, none⟩), .agg #[.int .i64 x, .int .i64 y]] m.val fun e w' => e = .returned (.int .i64 6) ∧ Below m.val.heap.size m.val w') :=
      Lib.hid fun m => (freeR_any (rc c w.heap.size 9) 2 q n x y U m.val (HS1.out.mo.go (Below.then HB4.out m.2 (Nat.le_refl _))) (by omega)).mono fun e w' h => h.elim (fun h => ⟨h.2.1, h.2.2⟩) (fun h => absurd (HS1.out.pm.mem_iff.2 h.1) hm)
    have HLn := Lib.hid (fun m : Later w4 => alike_any m.val (rc c w.heap.size 9) p q n F A U (HS1.out.al.go (Below.then HB4.out m.2 (Nat.le_refl _))) (HS1.out.mo.go (Below.then HB4.out m.2 (Nat.le_refl _))) HS1.out.gd HS1.out.pm (by omega))
    have k1 : ∀ m : Later w4, m.val.cell? ⟨w2.heap.size, 0, none⟩ = some (.int .i64 x) := fun m => later_old m HE4.out.cell0
    have k2 : ∀ m : Later w4, m.val.cell? ⟨w2.heap.size, 1, none⟩ = some (.int .i64 y) := fun m => later_old m HE4.out.cell1
    clear hm
    go_wp2_with fail
    refine wp_region_later (by kernel_rfl) (by kernel_rfl) ?_
    repeat (go_big_quiet_step (first | (go_at_call 16; exact Calls.later (HFn.out _)) | (go_at_call 32; exact Calls.later (HRn.out _)) | (go_at_call 10; exact Calls.later (HLn.out _))))
    refine wpQuiet_nil ?_
    rintro w5 ⟨⟨_, hq⟩, rfl⟩
    have HB5 := Lib.hid (Below.then HB4.out hq (Nat.le_refl _))
    clear hq HFn HRn HLn k1 k2
    go_wp2
    go_ret2
    exact ⟨c, F, A, U, L, _, rfl, HS.out.go HB5.out, by omega, by omega, Fr.ofBelow HB5.out, fun _ _ => rfl⟩
theorem size_fix (a b d : Int) (b1 : 0 ≤ b ∧ b ≤ 255) (d1 : 0 ≤ d ∧ d ≤ 255) :
    ∃ z : Int, ∀ w, Calls Try.prog 28 #[.agg #[.int .u8 a, .int .u8 b, .int .u8 d]] w fun e w' => e = .returned (.int .i64 z) ∧ Below w.heap.size w w' := by
  obtain ⟨b0, b1⟩ := b1
  obtain ⟨d0, d1⟩ := d1
  by_cases h0 : d % 8 = 0
  · refine ⟨b - 4, fun w => ?_⟩
    go_enter Try.func28, Try.ntmps28
    go_wp2
    go_ret
    exact ⟨rfl, (Below.refl _ _).alloc (Nat.le_refl _) _⟩
  · by_cases h1 : d % 8 = 1
    · refine ⟨b * 9, fun w => ?_⟩
      go_enter Try.func28, Try.ntmps28
      go_wp2
      go_ret
      exact ⟨rfl, (Below.refl _ _).alloc (Nat.le_refl _) _⟩
    · refine ⟨1 + b % 60, fun w => ?_⟩
      go_enter Try.func28, Try.ntmps28
      go_wp2
      go_ret
      exact ⟨rfl, (Below.refl _ _).alloc (Nat.le_refl _) _⟩
theorem step_any (a b d : Int) (w : World) (c : Nat → Nat) (p q : Nat) (n : Int) (F A U L : List (Int × Int)) (Ae : Option Addr) (ne ce : Nat) (h : St w c p q n F A U L (.slice Ae ne ce)) (hU : U.length ≤ 800) (hL : L.length ≤ 800) (ha : 0 ≤ a ∧ a ≤ 255) (hb : 0 ≤ b ∧ b ≤ 255) (hd : 0 ≤ d ∧ d ≤ 255) :
    Calls Try.prog 11 #[.pointer (some ⟨p, 0, none⟩), .pointer (some ⟨q, 0, none⟩), .agg #[.int .u8 a, .int .u8 b, .int .u8 d], .slice Ae ne ce] w (StepE w c p q n U L) := by
  by_cases h5 : a % 5 < 3
  · obtain ⟨z, hz⟩ := size_fix a b d hb hd
    by_cases hr : (chR F z).2 = 0
    · obtain ⟨x, s, y, h1, h2, h3, h4, h6, h7, h8⟩ := chR_ok hr
      subst h7
      obtain ⟨i, hi⟩ := lb_ex h.gd y.1
      obtain ⟨g1, g2, g3⟩ := gd_alloc h.gd h6 h8 hi
      exact stepA_yes a b d z y.1 s i w c p q n F A U L Ae ne ce h hU hL ha h5 hz h1 h2 h3 h4 g2 g3 hi g1
    · exact stepA_no a b d z w c p q n F A U L Ae ne ce h hU ha h5 hz hr
  · exact stepF_any a b d w c p q n F A U L Ae ne ce h hU hL ha hb hd h5
end Go.Proofs.Ytbiamhandhbodaa
