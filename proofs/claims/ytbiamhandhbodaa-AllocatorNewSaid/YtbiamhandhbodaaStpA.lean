/-
  Contract of the laws' step, where it allocates: the allocator does what its model does. Conditions: at most nine hundred extents.
-/
import Derived.Test.YtbiamhandhbodaaStp
namespace Go.Proofs.Ytbiamhandhbodaa
open Go.ChangeShapes Go.WideShapes Go.ChangeAt Go.RowKit
set_option maxHeartbeats 8000000
set_option maxRecDepth 100000

/-- What has the colour 0 has not changed. -/
structure Fr (c : Nat → Nat) (w w' : World) : Prop where
  os : w'.os = w.os
  tape : w'.tape = w.tape
  output : w'.output = w.output
  size : w.heap.size ≤ w'.heap.size
  block : ∀ g, g < w.heap.size → c g = 0 → w'.heap[g]? = w.heap[g]?
section
variable {c c' : Nat → Nat} {k p q : Nat} {w w' w'' : World} {n : Int} {F A U L : List (Int × Int)} {v : Value}
theorem Fr.ofBelow (h : Below w.heap.size w w') : Fr c w w' := ⟨h.os, h.tape, h.output, h.size, fun g hg _ => h.block g hg⟩
theorem Fr.ofKept (h : Kept c k w w') (hk : k ≠ 0) : Fr c w w' := ⟨h.os, h.tape, h.output, h.size, fun g hg hc => h.block g hg (by omega)⟩
theorem Fr.trans (h : Fr c w w') (h' : Fr c' w' w'') (hc : ∀ g, g < w.heap.size → c' g = c g) : Fr c w w'' :=
  ⟨h'.os.trans h.os, h'.tape.trans h.tape, h'.output.trans h.output, Nat.le_trans h.size h'.size, fun g hg h0 => (h'.block g (Nat.lt_of_lt_of_le hg h.size) ((hc g hg).trans h0)).trans (h.block g hg h0)⟩
theorem Fr.below {B : Nat} (h : Fr c w w') (hB : ∀ g, g < B → c g = 0) (hw : B ≤ w.heap.size) : Below B w w' := ⟨h.os, h.tape, h.output, h.size, fun g hg => h.block g (by omega) (hB g hg)⟩
theorem Alc.recol (h : Alc w c k p F A) (hc : ∀ g, g < w.heap.size → c' g = c g) : Alc w c' k p F A := h.kept (j := k + 1) Kept.refl (by omega) hc
theorem Mdl.recol (h : Mdl w c k q n U) (hc : ∀ g, g < w.heap.size → c' g = c g) : Mdl w c' k q n U := h.kept (j := k + 1) Kept.refl (by omega) hc
theorem St.recol (h : St w c p q n F A U L v) (hc : ∀ g, g < w.heap.size → c' g = c g) : St w c' p q n F A U L v :=
  ⟨h.al.recol hc, h.mo.recol hc, h.gd, h.pm, h.ev, fun g hg => (hc g (h.ev.blk_lt hg)).trans (h.evc g hg), h.evp⟩
end
/-- What a step says. -/
def StepE (w : World) (c : Nat → Nat) (p q : Nat) (n : Int) (U L : List (Int × Int)) (e : Ending) (w' : World) : Prop :=
  ∃ (c' : Nat → Nat) (F' A' U' L' : List (Int × Int)) (v' : Value), e = .returned (.tuple #[v', .bool true]) ∧ St w' c' p q n F' A' U' L' v' ∧ U'.length ≤ U.length + 1 ∧ L'.length ≤ L.length + 1 ∧ Fr c w w' ∧ ∀ g, g < w.heap.size → c' g = c g

theorem sz_ge {n : Int} (h : erR n = 0) : 0 < szR n := by
  have : 1 ≤ n ∧ n ≤ 65536 := by
    unfold erR at h
    split at h
    · omega
    · split at h
      · omega
      · omega
  rw [(mid_R this.1 this.2).2.1]
  exact sz_pos
theorem chR_ok {F : List (Int × Int)} {n : Int} (h : (chR F n).2 = 0) : ∃ x s z, chR F n = ((x, s), 0) ∧ szR n = s ∧ erR n = 0 ∧ plR F s = (x, true) ∧ best s F = some z ∧ z.1 = x ∧ 0 < s := by
  unfold chR at h ⊢
  by_cases he : erR n = 0
  · rw [if_pos he] at h ⊢
    cases hb : best (szR n) F with
    | none => rw [hb] at h; simp at h
    | some z => exact ⟨z.1, szR n, z, rfl, rfl, he, by unfold plR; rw [hb], hb, rfl, sz_ge he⟩
  · rw [if_neg he] at h
    exact absurd h he

theorem stepA_no (a b d z : Int) (w : World) (c : Nat → Nat) (p q : Nat) (n : Int) (F A U L : List (Int × Int)) (Ae : Option Addr) (ne ce : Nat) (h : St w c p q n F A U L (.slice Ae ne ce)) (hU : U.length ≤ 800) (ha : 0 ≤ a ∧ a ≤ 255) (h5 : a % 5 < 3)
    (hsz : ∀ W, Calls Try.prog 28 #[.agg #[.int .u8 a, .int .u8 b, .int .u8 d]] W fun e w' => e = .returned (.int .i64 z) ∧ Below W.heap.size W w') (hr : (chR F z).2 ≠ 0) :
    Calls Try.prog 11 #[.pointer (some ⟨p, 0, none⟩), .pointer (some ⟨q, 0, none⟩), .agg #[.int .u8 a, .int .u8 b, .int .u8 d], .slice Ae ne ce] w (StepE w c p q n U L) := by
  have hb0 : Below w.heap.size w (w.alloc (.cells #[.int .u8 a, .int .u8 b, .int .u8 d] 35)) := (Below.refl _ _).alloc (Nat.le_refl _) _
  have HB0 := Lib.hid hb0
  have HS := Lib.hid h
  have hF : F.length ≤ 1000000 := by have := gd_flen h.gd; omega
  have HSZ := Lib.hid hsz
  obtain ⟨a0, a1⟩ := ha
  have hA := h.len
  clear h hb0 hsz
  go_enter Try.func11, Try.ntmps11
  go_wp2_with fail
  generalize w.alloc (.cells #[.int .u8 a, .int .u8 b, .int .u8 d] 35) = w1 at *
  refine (HSZ.out w1).mono ?_
  rintro e w2 ⟨rfl, hb⟩
  have HB2 := Lib.hid (Below.then HB0.out hb (Nat.le_refl _))
  clear hb HB0 HSZ
  go_wp2_with fail
  refine (fits_any c 1 p F A z w2 (HS.out.al.go HB2.out) hF).mono ?_
  rintro e w3 ⟨rfl, hb⟩
  have HB3 := Lib.hid (Below.then HB2.out hb (Nat.le_refl _))
  clear hb HB2
  generalize hcr : (chR F z).2 = r at *
  have HCR := Lib.hid hcr
  clear hcr
  go_wp2_with fail
  refine (fitsR_any c 2 q n z F A U w3 (HS.out.mo.go HB3.out) HS.out.gd HS.out.pm (by omega)).mono ?_
  rintro e w4 ⟨rfl, hb⟩
  rw [HCR.out]
  have HB4 := Lib.hid (Below.then HB3.out hb (Nat.le_refl _))
  clear hb HB3
  go_wp2_with fail
  refine (alike_any w4 c p q n F A U (HS.out.al.go HB4.out) (HS.out.mo.go HB4.out) HS.out.gd HS.out.pm (by omega)).mono ?_
  rintro e w5 ⟨rfl, hb⟩
  have HB5 := Lib.hid (Below.then HB4.out hb (Nat.le_refl _))
  clear hb HB4
  go_wp2_with fail
  refine (alloc_no c 1 p F A z w5 (HS.out.al.go HB5.out) hF (by rw [HCR.out]; exact hr)).mono ?_
  rintro e w6 ⟨rfl, hb⟩
  rw [HCR.out]
  have HB6 := Lib.hid (Below.then HB5.out hb (Nat.le_refl _))
  clear hb HB5
  have hb7 : Below w6.heap.size w6 (w6.alloc (.cells #[.int .i64 0, .int .i64 0] 39)) := (Below.refl _ _).alloc (Nat.le_refl _) _
  have HE7 := Lib.hid (Box.new (w := w6) (x := 0) (y := 0))
  have HB7 := Lib.hid (Below.then HB6.out hb7 (Nat.le_refl _))
  clear hb7 HB6
  go_wp2_with fail
  generalize w6.alloc (.cells #[.int .i64 0, .int .i64 0] 39) = w7 at *
  refine (allocR_no c 2 q n z F A U w7 (HS.out.mo.go HB7.out) HS.out.gd HS.out.pm (by omega) (by rw [HCR.out]; exact hr)).mono ?_
  rintro e w8 ⟨rfl, hb⟩
  rw [HCR.out]
  have HB8 := Lib.hid (Below.then HB7.out hb (Nat.le_refl _))
  have HE8 := Lib.hid (HE7.out.go hb)
  clear hb HB7 HE7
  have hb9 : Below w8.heap.size w8 (w8.alloc (.cells #[.int .i64 0, .int .i64 0] 39)) := (Below.refl _ _).alloc (Nat.le_refl _) _
  have HV9 := Lib.hid (Box.new (w := w8) (x := 0) (y := 0))
  have HE9 := Lib.hid (HE8.out.go hb9)
  have HB9 := Lib.hid (Below.then HB8.out hb9 (Nat.le_refl _))
  have e0 := HE9.out.cell0
  have e1 := HE9.out.cell1
  clear hb9 HB8 HE8
  have hr' : (r == 0) = false := by simpa using hr
  go_wp2_with fail
  generalize w8.alloc (.cells #[.int .i64 0, .int .i64 0] 39) = w9 at *
  refine (alike_any w9 c p q n F A U (HS.out.al.go HB9.out) (HS.out.mo.go HB9.out) HS.out.gd HS.out.pm (by omega)).mono ?_
  rintro e w10 ⟨rfl, hb⟩
  have HB10 := Lib.hid (Below.then HB9.out hb (Nat.le_refl _))
  clear hb HB9
  go_wp2
  go_ret2
  exact ⟨c, F, A, U, L, _, rfl, HS.out.go HB10.out, by omega, by omega, Fr.ofBelow HB10.out, fun _ _ => rfl⟩
theorem stepA_yes (a b d z x s : Int) (i : Nat) (w : World) (c : Nat → Nat) (p q : Nat) (n : Int) (F A U L : List (Int × Int)) (Ae : Option Addr) (ne ce : Nat) (h : St w c p q n F A U L (.slice Ae ne ce)) (hU : U.length ≤ 800) (hL : L.length ≤ 800) (ha : 0 ≤ a ∧ a ≤ 255) (h5 : a % 5 < 3)
    (hsz : ∀ W, Calls Try.prog 28 #[.agg #[.int .u8 a, .int .u8 b, .int .u8 d]] W fun e w' => e = .returned (.int .i64 z) ∧ Below W.heap.size W w') (hr : chR F z = ((x, s), 0)) (hs : szR z = s) (he : erR z = 0) (hpl : plR F s = (x, true))
    (hh : Has F (x, s)) (hp : Pr x s) (hi : Lb A x i) (hgd' : Gd n (rem F (x, s)) (A.take i ++ (x, s) :: A.drop i)) :
    Calls Try.prog 11 #[.pointer (some ⟨p, 0, none⟩), .pointer (some ⟨q, 0, none⟩), .agg #[.int .u8 a, .int .u8 b, .int .u8 d], .slice Ae ne ce] w (StepE w c p q n U L) := by
  obtain ⟨i0, hi0, hz0, hz1, hz2⟩ := info_parts infoE
  have hb0 : Below w.heap.size w (w.alloc (.cells #[.int .u8 a, .int .u8 b, .int .u8 d] 35)) := (Below.refl _ _).alloc (Nat.le_refl _) _
  have HB0 := Lib.hid hb0
  have HS := Lib.hid h
  have hF : F.length ≤ 1000000 := by have := gd_flen h.gd; omega
  have HSZ := Lib.hid hsz
  obtain ⟨a0, a1⟩ := ha
  have hA := h.len
  have HR := Lib.hid hr
  have HSS := Lib.hid hs
  have HER := Lib.hid he
  have HPL := Lib.hid hpl
  have HHas := Lib.hid hh
  have HPr := Lib.hid hp
  have HI' := Lib.hid hi
  have HGD := Lib.hid hgd'
  have p1 := hp.1
  have p2 := hp.2.1
  have p3 := hp.2.2
  have hne : ne ≤ 800 := by have := h.ev.exs.len; omega
  clear h hb0 hsz hr hs he hpl hh hp hi hgd'
  go_enter Try.func11, Try.ntmps11
  go_wp2_with fail
  generalize w.alloc (.cells #[.int .u8 a, .int .u8 b, .int .u8 d] 35) = w1 at *
  refine (HSZ.out w1).mono ?_
  rintro e w2 ⟨rfl, hb⟩
  have HB2 := Lib.hid (Below.then HB0.out hb (Nat.le_refl _))
  clear hb HB0 HSZ
  go_wp2_with fail
  refine (fits_any c 1 p F A z w2 (HS.out.al.go HB2.out) hF).mono ?_
  rintro e w3 ⟨rfl, hb⟩
  rw [HR.out]
  have HB3 := Lib.hid (Below.then HB2.out hb (Nat.le_refl _))
  clear hb HB2
  go_wp2_with fail
  refine (fitsR_any c 2 q n z F A U w3 (HS.out.mo.go HB3.out) HS.out.gd HS.out.pm (by omega)).mono ?_
  rintro e w4 ⟨rfl, hb⟩
  rw [HR.out]
  have HB4 := Lib.hid (Below.then HB3.out hb (Nat.le_refl _))
  clear hb HB3
  go_wp2_with fail
  refine (alike_any w4 c p q n F A U (HS.out.al.go HB4.out) (HS.out.mo.go HB4.out) HS.out.gd HS.out.pm (by omega)).mono ?_
  rintro e w5 ⟨rfl, hb⟩
  have HB5 := Lib.hid (Below.then HB4.out hb (Nat.le_refl _))
  have HS5 := Lib.hid (HS.out.go HB5.out)
  clear hb HB4
  go_wp2_with fail
  refine (alloc_yes c 1 p i F A n z x s w5 HS5.out.al HS5.out.gd (by omega) HR.out HHas.out HPr.out HI'.out).mono ?_
  rintro e w6 ⟨rfl, hal6, hk6⟩
  have HF6 := Lib.hid ((Fr.ofBelow (c := c) HB5.out).trans (Fr.ofKept hk6 (by omega)) (fun _ _ => rfl))
  have HM6 := Lib.hid (HS5.out.mo.kept (c' := rc c w5.heap.size 1) hk6 (by omega) (fun g hg => rc_old hg))
  have HV6 : Hid (OwnE 39 w6 0 (.slice Ae ne ce) L) := Lib.hid (HS5.out.ev.keptC hk6 (fun g hg => by have := HS5.out.evc g hg; omega))
  have HAL6 := Lib.hid hal6
  have hz6 : w5.heap.size ≤ w6.heap.size := hk6.size
  have hw5 : w.heap.size ≤ w5.heap.size := HB5.out.size
  have HEC : Hid (∀ g, (Value.slice Ae ne ce).ownBlock = some g → c g = 3 ∧ g < w.heap.size) := Lib.hid (fun g hg => ⟨HS.out.evc g hg, HS.out.ev.blk_lt hg⟩)
  clear hal6 hk6 HB5 HS5
  have hb7 : Below w6.heap.size w6 (w6.alloc (.cells #[.int .i64 x, .int .i64 s] 39)) := (Below.refl _ _).alloc (Nat.le_refl _) _
  have HE7 := Lib.hid (Box.new (w := w6) (x := x) (y := s))
  have HB7 := Lib.hid hb7
  clear hb7
  go_wp2_with fail
  generalize w6.alloc (.cells #[.int .i64 x, .int .i64 s] 39) = w7 at *
  refine (allocR_yes (rc c w5.heap.size 1) 2 q n z x s F A U w7 (HM6.out.go HB7.out) HS.out.gd HS.out.pm (by omega) HR.out HSS.out HER.out HPL.out HPr.out).mono ?_
  rintro e w8 ⟨rfl, hm8, hk8⟩
  have hz7 : w6.heap.size < w7.heap.size := HE7.out.lt
  have HF8 := Lib.hid ((HF6.out.trans (Fr.ofBelow (c := c) HB7.out) (fun _ _ => rfl)).trans (Fr.ofKept hk8 (by omega)) (fun g hg => rc_old (by omega)))
  have HM8 := Lib.hid hm8
  have HAL8 := Lib.hid ((HAL6.out.go HB7.out).kept (c' := rc (rc c w5.heap.size 1) w7.heap.size 2) hk8 (by omega) (fun g hg => rc_old hg))
  have HV8 : Hid (OwnE 39 w8 0 (.slice Ae ne ce) L) := Lib.hid ((HV6.out.below HB7.out).keptC hk8 (fun g hg => by have := HEC.out g hg; rw [rc_old (by omega)]; omega))
  have HE8 : Hid (Box w8 w6.heap.size x s) := Lib.hid ((hk8.block _ hz7 (by rw [rc_new hz6]; omega)).trans HE7.out)
  have hz8 : w7.heap.size ≤ w8.heap.size := hk8.size
  clear hm8 hk8 HB7 HE7 HM6 HAL6 HV6 HF6
  have hb9 : Below w8.heap.size w8 (w8.alloc (.cells #[.int .i64 x, .int .i64 s] 39)) := (Below.refl _ _).alloc (Nat.le_refl _) _
  have HV9 := Lib.hid (Box.new (w := w8) (x := x) (y := s))
  have HE9 := Lib.hid (HE8.out.go hb9)
  have HB9 := Lib.hid hb9
  have HL9 := Lib.hid (HV8.out.below hb9)
  clear hb9 HE8
  go_wp2_with fail
  generalize w8.alloc (.cells #[.int .i64 x, .int .i64 s] 39) = w9 at *
  -- the list of what was ever allocated
  obtain ⟨O0, hO0⟩ : ∃ O : Obj, O = .cells #[] 39 := ⟨_, rfl⟩
  obtain ⟨O1, hO1⟩ : ∃ O : Obj, O = .cells #[.int .i64 x, .int .i64 s] 39 := ⟨_, rfl⟩
  have k1 := HV9.out.cell0
  have k2 := HV9.out.cell1
  have k1a := cell_under k1 O0
  have k2a := cell_under k2 O0
  have ga : Hid (OwnE 39 (w9.drew.alloc O0) w9.heap.size (.slice (some ⟨w9.heap.size, 0, none⟩) 0 0) []) := Lib.hid ⟨by rw [hO0]; exact World.ownsRow_made w9.drew #[] 0 (Nat.le_refl _) (Nat.zero_le _) rfl, Fits.nil⟩
  have gb : Hid (OwnE 39 ((w9.drew.alloc O0).alloc O1) w9.heap.size (.slice (some ⟨w9.heap.size, 0, none⟩) 0 0) []) := Lib.hid (ga.out.alloc _)
  have gc : Hid (OwnE 39 ((w9.drew.alloc O1).alloc O0) (w9.heap.size + 1) (.slice (some ⟨w9.heap.size + 1, 0, none⟩) 0 0) []) := Lib.hid ⟨by
    have := World.ownsRow_made (w9.drew.alloc O1) #[] (e := 39) (size := 2) 0 (Nat.le_refl _) (Nat.zero_le _) rfl
    rw [hO0]
    have e : (w9.drew.alloc O1).heap.size = w9.heap.size + 1 := by simp
    rw [e] at this
    exact this, Fits.nil⟩
  have hxd := HL9.out.exs.go (below_drewN (Below.refl w9.heap.size w9) 1)
  have xa : Hid (Exs (w9.drew.alloc O0) w9.heap.size Ae ne ce L) := Lib.hid (hxd.alloc O0)
  have xb : Hid (Exs ((w9.drew.alloc O0).alloc O1) w9.heap.size Ae ne ce L) := Lib.hid ((hxd.alloc O0).below ((Below.refl _ _).alloc (by simp) O1))
  have xc : Hid (Exs ((w9.drew.alloc O1).alloc O0) w9.heap.size Ae ne ce L) := Lib.hid ((hxd.alloc O1).below ((Below.refl _ _).alloc (by simp) O0))
  clear hxd
  have hN1 : Hid (((w9.drew.alloc O0).alloc O1).heap[w9.heap.size + 1]? = some (.cells #[.int .i64 x, .int .i64 s] 39 (0, 0))) := Lib.hid (by
    have := heap_alloc_new (w9.drew.alloc O0) O1
    have e : (w9.drew.alloc O0).heap.size = w9.heap.size + 1 := by simp
    rw [e, hO1] at this
    rw [hO1]
    exact this)
  have hN0 : Hid (((w9.drew.alloc O1).alloc O0).heap[w9.heap.size]? = some (.cells #[.int .i64 x, .int .i64 s] 39 (0, 0))) := Lib.hid (by
    rw [Below.heap_alloc (w9.drew.alloc O1) O0 w9.heap.size (by simp)]
    have := heap_alloc_new w9.drew O1
    rw [hO1] at this ⊢
    exact this)
  have hFit : Hid (Fits [(x, s)]) := Lib.hid (fun z hz => by simp at hz; subst hz; simp only; omega)
  have hLn : Hid (L.length ≤ 800) := Lib.hid hL
  subst hO0 hO1
  have HI := Lib.hid hi0
  have HZ := Lib.hid hz0
  clear hi0 hz0
  go_wp2_with fail
  go_region_law
    (first
      | (refine step_appE (w9.drew.alloc (.cells #[] 39)) rfl (.tmp 52) (.tmp 53) 29 rfl Try.underlying29 HI.out HZ.out rfl hz1 (by omega) ga.out rfl xa.out rfl (by simp; omega) (by simp) ?_
         intro v6 wa ho6 hb6 hg6
         obtain ⟨A6, n6, c6, rfl, hx6⟩ := ho6.shape
         have HO6 := Lib.hid (ho6.down (B := w9.heap.size) (by omega))
         have HB6 : Hid (Below w9.heap.size w9 wa) := Lib.hid (Below.trans (B := w9.heap.size) ((below_drewN (Below.refl _ _) 1).alloc (Nat.le_refl _) _) (hb6.mono (B' := w9.heap.size) (by omega)))
         have m1 : wa.cell? ⟨w8.heap.size, 0, none⟩ = some (.int .i64 x) := (HV9.out.go HB6.out).cell0
         have m2 : wa.cell? ⟨w8.heap.size, 1, none⟩ = some (.int .i64 s) := (HV9.out.go HB6.out).cell1
         have HS6 : Hid (w9.heap.size ≤ wa.heap.size) := Lib.hid HB6.out.size
         clear ho6 hb6 hg6 hx6)
      | (refine step_appE (wa.alloc (.cells #[.int .i64 x, .int .i64 s] 39)) rfl (.tmp 54) (.tmp 56) 29 rfl Try.underlying29 HI.out HZ.out rfl hz1 (by omega) (HO6.out.alloc _) rfl (Exs.new wa [(x, s)] _ _ 1 rfl rfl (by unfold maxLen; omega) hFit.out) rfl (by have := hLn.out; simp; omega) (by have := HS6.out; simp; omega) ?_
         intro v7 wb ho7 hb7 hg7
         obtain ⟨A7, n7, c7, rfl, hx7⟩ := ho7.shape
         have HO7 := Lib.hid ho7
         have HB7 : Hid (Below w9.heap.size w9 wb) := Lib.hid ((HB6.out.alloc HB6.out.size _).trans hb7)
         clear ho7 hb7 hg7 hx7)
      | (refine step_appE wa rfl (.tmp 54) (.tmp 56) 29 rfl Try.underlying29 HI.out HZ.out rfl hz1 (by omega) HO6.out rfl HX6.out rfl (by have := hLn.out; simp; omega) (by have := HS6.out; simp; omega) ?_
         intro v7 wb ho7 hb7 hg7
         obtain ⟨A7, n7, c7, rfl, hx7⟩ := ho7.shape
         have HO7 := Lib.hid ho7
         have HB7 : Hid (Below w9.heap.size w9 wb) := Lib.hid (HB6.out.trans hb7)
         clear ho7 hb7 hg7 hx7)
      | (refine step_appE ((w9.drew.alloc (.cells #[] 39)).alloc (.cells #[.int .i64 x, .int .i64 s] 39)) rfl (.tmp 52) (.tmp 53) 29 rfl Try.underlying29 HI.out HZ.out rfl hz1 (by omega) gb.out rfl xb.out rfl (by simp; omega) (by simp; omega) ?_
         intro v6 wa ho6 hb6 hg6
         obtain ⟨A6, n6, c6, rfl, hx6⟩ := ho6.shape
         have HO6 := Lib.hid (ho6.down (B := w9.heap.size) (by omega))
         have HB6 : Hid (Below w9.heap.size w9 wa) := Lib.hid (Below.trans (B := w9.heap.size) (((below_drewN (Below.refl _ _) 1).alloc (Nat.le_refl _) _).alloc (by simp) _) (hb6.mono (B' := w9.heap.size) (by omega)))
         have m1 : wa.cell? ⟨w8.heap.size, 0, none⟩ = some (.int .i64 x) := (HV9.out.go HB6.out).cell0
         have m2 : wa.cell? ⟨w8.heap.size, 1, none⟩ = some (.int .i64 s) := (HV9.out.go HB6.out).cell1
         have HS6 : Hid (w9.heap.size ≤ wa.heap.size) := Lib.hid HB6.out.size
         have HX6 : Hid (Exs wa wa.heap.size (some ⟨w9.heap.size + 1, 0, none⟩) 1 1 [(x, s)]) := Lib.hid (exs_one ((hg6.block (w9.heap.size + 1) (by simp) (fun e => absurd (Option.some.inj e) (by simp))).trans hN1.out) hFit.out)
         clear ho6 hb6 hg6 hx6)
      | (refine step_appE ((w9.drew.alloc (.cells #[.int .i64 x, .int .i64 s] 39)).alloc (.cells #[] 39)) rfl (.tmp 52) (.tmp 53) 29 rfl Try.underlying29 HI.out HZ.out rfl hz1 (by omega) gc.out rfl xc.out rfl (by simp; omega) (by simp) ?_
         intro v6 wa ho6 hb6 hg6
         obtain ⟨A6, n6, c6, rfl, hx6⟩ := ho6.shape
         have HO6 := Lib.hid (ho6.down (B := w9.heap.size) (by omega))
         have HB6 : Hid (Below w9.heap.size w9 wa) := Lib.hid (Below.trans (B := w9.heap.size) (((below_drewN (Below.refl _ _) 1).alloc (Nat.le_refl _) _).alloc (by simp) _) (hb6.mono (B' := w9.heap.size) (by omega)))
         have m1 : wa.cell? ⟨w8.heap.size, 0, none⟩ = some (.int .i64 x) := (HV9.out.go HB6.out).cell0
         have m2 : wa.cell? ⟨w8.heap.size, 1, none⟩ = some (.int .i64 s) := (HV9.out.go HB6.out).cell1
         have HS6 : Hid (w9.heap.size ≤ wa.heap.size) := Lib.hid HB6.out.size
         have HX6 : Hid (Exs wa wa.heap.size (some ⟨w9.heap.size, 0, none⟩) 1 1 [(x, s)]) := Lib.hid (exs_one ((hb6.block w9.heap.size (by omega)).trans hN0.out) hFit.out)
         clear ho6 hb6 hg6 hx6))
  all_goals
    clear ga gb gc xa xb xc hN0 hN1 k1 k2 k1a k2a HO6 HB6 m1 m2 HS6
    have HBA := Lib.hid (Below.then HB9.out HB7.out (Nat.le_refl _))
    have HE10 := Lib.hid (HE9.out.go HB7.out)
    have HV10 := Lib.hid (HV9.out.go HB7.out)
    have e0 := HE10.out.cell0
    have e1 := HE10.out.cell1
    have e2 := HV10.out.cell0
    have e3 := HV10.out.cell1
    have hz9 : w8.heap.size < w9.heap.size := HV9.out.lt
    go_wp2_with fail
    refine (alike_any wb (rc (rc c w5.heap.size 1) w7.heap.size 2) p q n _ _ _ (HAL8.out.go HBA.out) (HM8.out.go HBA.out) HGD.out (perm_put HS.out.pm) (by simp; omega)).mono ?_
    rintro e wc ⟨rfl, hb⟩
    have HBC := Lib.hid (Below.then HBA.out hb (Nat.le_refl _))
    have HOC := Lib.hid (HO7.out.below hb)
    rw [List.nil_append] at HOC
    clear hb e0 e1 e2 e3
    go_wp2
    go_ret2
    refine ⟨rc (rc (rc c w5.heap.size 1) w7.heap.size 2) w9.heap.size 3, _, _, _, _, _, rfl, ⟨(HAL8.out.recol (fun g hg => rc_old (by omega))).go HBC.out, (HM8.out.recol (fun g hg => rc_old (by omega))).go HBC.out, HGD.out, perm_put HS.out.pm, HOC.out.down (Nat.zero_le _), fun g hg => rc_new (HOC.out.blk_ge hg), fun y hy => ?_⟩, by simp, by simp, HF8.out.trans (Fr.ofBelow (c := c) HBC.out) (fun _ _ => rfl), fun g hg => ?_⟩
    · rcases List.mem_append.1 hy with h1 | h1
      · exact HS.out.evp y h1
      · simp at h1
        subst h1
        exact HPr.out
    · rw [rc_old (by omega), rc_old (by omega), rc_old (by omega)]
end Go.Proofs.Ytbiamhandhbodaa
