/-
  Contracts of the law's choice of a word, of its first generation and of its check of the chapter's example. Conditions: at most 2^63 - 1 handles to choose from, each a word of 64 bits.
-/
import Derived.Test.YtaoojgnkbcoggaaHal
import Derived.Test.YtaoojgnkbcoggaaHwo
import Derived.WalkArith
namespace Go.Proofs.Ytaoojgnkbcoggaa
open Go.ChangeShapes Go.WideShapes Go.RowKit
set_option linter.unusedVariables false
set_option linter.unusedSimpArgs false
set_option maxHeartbeats 8000000
set_option maxRecDepth 100000

/-- A handle. -/
def han1 : Enc Int where
  k := 1
  ev := fun x => [.int .u64 x]
  len := fun _ => rfl
  one := fun x u hu => by
    simp only [List.mem_singleton] at hu
    subst hu
    rfl
  pos := by omega
theorem Kws.han_at {w : World} {B n c : Nat} {A : Option Addr} {l : List Int} (h : Kws han1 w B A n c l) {i : Nat} (hi : i < n) :
    ∃ b o x, l[i]? = some x ∧ A = some ⟨b, o, none⟩ ∧ b < B ∧ w.cell? ⟨b, o + i, none⟩ = some (.int .u64 x) := by
  obtain ⟨b, o, x, h1, h2, h3, h4⟩ := h.at_ hi
  have h5 := h4 0 _ rfl
  rw [show han1.k = 1 from rfl, Nat.mul_one, Nat.add_zero] at h5
  exact ⟨b, o, x, h1, h2, h3, h5⟩
def fst13 (x : Int) : Int := if x % 3 = 0 then 4294967295 - x / 3 % 4 else 1 + x % 5
theorem fst13_in {x : Int} (h : 0 ≤ x ∧ x ≤ 255) : 1 ≤ fst13 x ∧ fst13 x ≤ 4294967295 := by
  unfold fst13
  split <;> omega
theorem first13_any (x : Int) (w : World) (h : 0 ≤ x ∧ x ≤ 255) : Calls Try.prog 10 #[.int .u8 x] w fun e w' => e = .returned (.int .i64 (fst13 x)) ∧ w = w' := by
  by_cases hx : x % 3 = 0
  · have hv : fst13 x = 4294967295 - x / 3 % 4 := if_pos hx
    have hb : 0 ≤ x / 3 ∧ x / 3 ≤ 85 ∧ 0 ≤ x / 3 % 4 ∧ x / 3 % 4 < 4 := by omega
    rw [hv]
    go_enter Try.func10, Try.ntmps10
    go_wp2
    go_ret
    exact ⟨rfl, rfl⟩
  · have hv : fst13 x = 1 + x % 5 := if_neg hx
    have hxb : (x % 3 == 0) = false := by simpa using hx
    have hb : 0 ≤ x % 5 ∧ x % 5 < 5 := by omega
    rw [hv]
    go_enter Try.func10, Try.ntmps10
    go_wp2
    go_ret
    exact ⟨rfl, rfl⟩
def WrE (w : World) (e : Ending) (w' : World) : Prop := ∃ h, e = .returned (.int .u64 h) ∧ U64 h ∧ Below w.heap.size w w'
theorem word13_any (x0 x1 x2 x3 f : Int) (A : Option Addr) (n c : Nat) (l : List Int) (w : World) (h0 : 0 ≤ x0 ∧ x0 ≤ 65535) (h1 : 0 ≤ x1 ∧ x1 ≤ 65535) (h2 : 0 ≤ x2 ∧ x2 ≤ 65535) (h3 : 0 ≤ x3 ∧ x3 ≤ 65535) (hf : 1 ≤ f ∧ f ≤ 4294967295)
    (hl : Kws han1 w w.heap.size A n c l) (hu : ∀ x ∈ l, U64 x) :
    Calls Try.prog 14 #[.agg #[.int .u16 x0, .int .u16 x1, .int .u16 x2, .int .u16 x3], .int .i64 f, .slice A n c] w (WrE w) := by
  have hba : Below w.heap.size w (w.alloc (.cells #[.int .u16 x0, .int .u16 x1, .int .u16 x2, .int .u16 x3] 36)) := (Below.refl _ _).alloc (Nat.le_refl _) _
  have HB0 := Lib.hid hba
  have HK := Lib.hid (hl.go hba)
  have HU := Lib.hid hu
  have hcap := hl.cap
  have hsm := hl.small
  have hln := hl.len
  unfold maxLen at hsm
  have hm1 := Int.emod_nonneg x2 (show (4 : Int) ≠ 0 by omega)
  have d1 : x1 / 8 ≤ 8191 ∧ 0 ≤ x1 / 8 := by omega
  have d2 : x2 / 8 ≤ 8191 ∧ 0 ≤ x2 / 8 := by omega
  have d3 : x3 / 8 ≤ 8191 ∧ 0 ≤ x3 / 8 := by omega
  have hz0 : (w.alloc (.cells #[.int .u16 x0, .int .u16 x1, .int .u16 x2, .int .u16 x3] 36)).heap.size = w.heap.size + 1 := by simp
  have HROW := Lib.hid (Row.new (w.alloc (.cells #[.int .u16 x0, .int .u16 x1, .int .u16 x2, .int .u16 x3] 36)) (iv .u16 [x1, x2, x3, x1 / 8, x2 / 8, x3 / 8]) #[.int .u16 x1, .int .u16 x2, .int .u16 x3, .int .u16 (x1 / 8), .int .u16 (x2 / 8), .int .u16 (x3 / 8)] 35 rfl (by simp [iv, maxLen]))
  have HFIT : Hid (Fit .u16 [x1, x2, x3, x1 / 8, x2 / 8, x3 / 8]) := Lib.hid (by
    intro y hy
    simp only [List.mem_cons, List.not_mem_nil, or_false] at hy
    rcases hy with rfl | rfl | rfl | rfl | rfl | rfl <;> exact Go.WalkArith.wf_u16 (by omega))
  rw [hz0] at HROW
  clear hl hu hba
  unfold WrE
  by_cases hc : x2 % 4 > 0 ∧ 0 < n
  · obtain ⟨hc1, hc2⟩ := hc
    have hc3 : (n : Int) > 0 := by omega
    have hc4 : ((n : Int) == 0) = false := by simpa using (show ¬ (n : Int) = 0 by omega)
    have hmd := Int.emod_nonneg x1 (show (n : Int) ≠ 0 by omega)
    have hml := Int.emod_lt_of_pos x1 (show (0 : Int) < (n : Int) by omega)
    obtain ⟨i, hi⟩ : ∃ i : Nat, x1 % (n : Int) = (i : Int) := ⟨(x1 % (n : Int)).toNat, by omega⟩
    obtain ⟨b, o, y, hy, rfl, hb, g0⟩ := HK.out.han_at (i := i) (by omega)
    have HUY := Lib.hid (HU.out y (List.mem_of_getElem? hy))
    have hin : (i : Int) < (n : Int) := by omega
    clear hy
    by_cases h16 : x2 % 16 = 1
    · have hK6 := Int.emod_nonneg x3 (show (64 : Int) ≠ 0 by omega)
      have hL6 := Int.emod_lt_of_pos x3 (show (0 : Int) < 64 by omega)
      go_enter Try.func14, Try.ntmps14
      go_wp2
      go_ret
      exact ⟨_, rfl, u64_bits _ _ _, HB0.out⟩
    · have h16b : (x2 % 16 == 1) = false := by simpa using h16
      go_enter Try.func14, Try.ntmps14
      go_wp2
      go_ret
      exact ⟨_, rfl, HUY.out, HB0.out⟩
  · have HOF := Lib.hid (of_any _ _ _ [x1, x2, x3, x1 / 8, x2 / 8, x3 / 8] 6 ((w.alloc (.cells #[.int .u16 x0, .int .u16 x1, .int .u16 x2, .int .u16 x3] 36)).alloc (.cells #[.int .u16 x1, .int .u16 x2, .int .u16 x3, .int .u16 (x1 / 8), .int .u16 (x2 / 8), .int .u16 (x3 / 8)] 35)) (by have := HROW.out; simpa [hz0] using this) (by omega))
    have HB1 := Lib.hid (HB0.out.alloc (by omega) (.cells #[.int .u16 x1, .int .u16 x2, .int .u16 x3, .int .u16 (x1 / 8), .int .u16 (x2 / 8), .int .u16 (x3 / 8)] 35))
    have hz1 : ((w.alloc (.cells #[.int .u16 x0, .int .u16 x1, .int .u16 x2, .int .u16 x3] 36)).alloc (.cells #[.int .u16 x1, .int .u16 x2, .int .u16 x3, .int .u16 (x1 / 8), .int .u16 (x2 / 8), .int .u16 (x3 / 8)] 35)).heap.size = w.heap.size + 2 := by simp
    have HWD := Lib.hid (fun (b : Nat) (W : World) (h : TS W b [x1, x2, x3, x1 / 8, x2 / 8, x3 / 8] 0) => wordW_any b _ f W h HFIT.out hf)
    by_cases hc1 : x2 % 4 > 0
    · have hc2 : n = 0 := by omega
      subst hc2
      go_enter Try.func14, Try.ntmps14
      go_wp2_with fail
      refine HOF.out.mono ?_
      rintro e w3 ⟨b, rfl, hts, hge, hb3⟩
      have HTS := Lib.hid hts
      have HB3 := Lib.hid (Below.then HB1.out hb3 (by omega))
      have hb0 : w.heap.size ≤ b := by omega
      clear hts hge hb3 HOF
      go_wp2_with fail
      refine (HWD.out b w3 HTS.out).mono ?_
      rintro e w4 ⟨h, rfl, hu, ho⟩
      have HU4 := Lib.hid hu
      have HB4 := Lib.hid (HB3.out.trans (ho.below hb0 HB3.out.size))
      clear hu ho
      go_wp2
      go_ret
      exact ⟨_, rfl, HU4.out, HB4.out⟩
    · have hc2 : decide (x2 % 4 > 0) = false := decide_eq_false hc1
      go_enter Try.func14, Try.ntmps14
      go_wp2_with fail
      refine HOF.out.mono ?_
      rintro e w3 ⟨b, rfl, hts, hge, hb3⟩
      have HTS := Lib.hid hts
      have HB3 := Lib.hid (Below.then HB1.out hb3 (by omega))
      have hb0 : w.heap.size ≤ b := by omega
      clear hts hge hb3 HOF
      go_wp2_with fail
      refine (HWD.out b w3 HTS.out).mono ?_
      rintro e w4 ⟨h, rfl, hu, ho⟩
      have HU4 := Lib.hid hu
      have HB4 := Lib.hid (HB3.out.trans (ho.below hb0 HB3.out.size))
      clear hu ho
      go_wp2
      go_ret
      exact ⟨_, rfl, HU4.out, HB4.out⟩
/-- The example of the chapter. -/
def exT : Ht := Ht.new 4 1
theorem exT_1 : exT.issE 1 7 = 0 ∧ exT.issH 1 7 0 = 504403158282272768 := by decide
theorem exT_2 : (exT.issN 1 7 0 16 0).resE 576460752320200704 = 12 := by decide
theorem exT_3 : (exT.issN 1 7 0 16 0).resE 504403158299049984 = 11 := by decide
theorem awake13_any (w : World) : Calls Try.prog 8 #[] w fun e w' => e = .returned (.bool true) ∧ Below w.heap.size w w' := by
  have HN := Lib.hid (newT_any 4 1 w (fun _ => 0) 1)
  unfold NwE at HN
  have hw0 : exT.Wf 4 := Ht.wf_new (by omega)
  have HW0 := Lib.hid hw0
  clear hw0
  go_enter Try.func8, Try.ntmps8
  go_wp2_with fail
  refine HN.out.mono ?_
  rintro e w2 (⟨h1, _⟩ | ⟨_, p, rfl, hp, hT, hb⟩)
  · exact absurd h1 (by decide)
  · have HB := Lib.hid hb
    have HT : Hid (Htb w2 (rc (fun _ => 0) w.heap.size 1) 1 p exT) := Lib.hid hT
    clear HN hT hb
    have HI := Lib.hid (issT_any w2 _ 1 p 4 exT 1 7 0 16 0 HT.out HW0.out (by omega) (by omega))
    unfold IsE at HI
    rw [exT_1.1, exT_1.2] at HI
    go_wp2_with fail
    refine HI.out.mono ?_
    rintro e w3 ⟨rfl, hT3, hk3⟩
    have HW1 := Lib.hid (HW0.out.iss (o := 1) (g := 7) (f := 0) (l := 16) (d := 0))
    have HB3 : Hid (Below w.heap.size w w3) := Lib.hid (HB.out.trans (hk3.below (fun g hg => by rw [rc_old hg]; omega) HB.out.size))
    have HT3 := Lib.hid hT3
    have HR1 := Lib.hid (resS_any w3 _ 1 p 4 _ 576460752320200704 hT3 HW1.out (by omega) ⟨by omega, by omega⟩)
    unfold RsE at HR1
    rw [exT_2] at HR1
    clear hT3 hk3 HI
    obtain ⟨⟨v1, v2, v3, v4, v5⟩, hv⟩ : ∃ v, (exT.issN 1 7 0 16 0).resV 576460752320200704 = v := ⟨_, rfl⟩
    rw [hv] at HR1
    unfold enV at HR1
    simp only at HR1
    go_wp2_with fail
    refine HR1.out.mono ?_
    rintro e w4 ⟨rfl, hb4⟩
    have hb5 : Below w3.heap.size w3 (w4.alloc (.cells #[.int .u64 v1, .int .i64 v2, .int .i64 v3, .int .i64 v4, .int .i64 v5] 44)) := hb4.alloc hb4.size _
    have HB5 := Lib.hid (Below.then HB3.out hb5 (Nat.le_refl _))
    have HR2 := Lib.hid (resS_any _ _ 1 p 4 _ 504403158299049984 (HT3.out.go hb5) HW1.out (by omega) ⟨by omega, by omega⟩)
    unfold RsE at HR2
    rw [exT_3] at HR2
    obtain ⟨⟨u1, u2, u3, u4, u5⟩, hu⟩ : ∃ v, (exT.issN 1 7 0 16 0).resV 504403158299049984 = v := ⟨_, rfl⟩
    rw [hu] at HR2
    unfold enV at HR2
    simp only at HR2
    clear hb4 hb5 HR1
    go_wp2_with fail
    refine HR2.out.mono ?_
    rintro e w6 ⟨rfl, hb6⟩
    have HB6 := Lib.hid (Below.then HB5.out hb6 (Nat.le_refl _))
    clear hb6 HR2
    go_wp2
    go_ret
    exact ⟨rfl, HB6.out.alloc HB6.out.size _⟩
end Go.Proofs.Ytaoojgnkbcoggaa
