/-
  The law TypecodeEncode as a walk. No conditions.
-/
import Derived.Test.YtebbnkjjebfgeaaTca
import Derived.Test.YtebbnkjjebfgeaaMde
import Derived.Test.YtebbnkjjebfgeaaOty
namespace Go.Proofs.Ytebbnkjjebfgeaa
open Go.ChangeShapes Go.WideShapes Go.RowKit
set_option linter.unusedVariables false
set_option maxHeartbeats 4000000
set_option maxRecDepth 100000

theorem typecodeEncode_walk (n : Int) (A : Option Addr) (m c : Nat) (l : List (Int × Int)) (a1 : Option Addr) (len1 cap1 : Nat) (z1 : List Int) (w : World) (h0 : (Lit.int .i64 n).wf = true) (h : IsExs w A m c l) (h1 : IsRow .u16 w a1 len1 cap1 z1) :
    Calls Try.prog 3 #[.agg #[.int .i64 n, .slice A m c], .slice a1 len1 cap1] w fun e w' => e = .returned (.bool true) ∧ Below w.heap.size w w' := by
  have h : Exs w w.heap.size A m c l := h
  obtain ⟨hrow, hfit⟩ := h1.row
  generalize z1.take len1 = L at hrow hfit
  have hb0 : Below w.heap.size w (w.alloc (.cells #[.int .i64 n, .slice A m c] 24)) := (Below.refl _ _).alloc (Nat.le_refl _) _
  have HB0 := Lib.hid hb0
  have HT0 := Lib.hid (TyB.new (w := w) (n := n) (A := A) (m := m) (c := c))
  have HX0 := Lib.hid (h.go hb0)
  have HOF := Lib.hid (of_any a1 len1 cap1 L 30 _ (hrow.go hb0) (by omega))
  have HFT := Lib.hid (hfit.take 30)
  generalize L.take 30 = T at *
  obtain ⟨hok, hnl⟩ := typ_ok T 0
  have HTY := Lib.hid (fun b W (hW : TS W b T 0) => type_any b 0 T W hW HFT.out (by omega))
  obtain ⟨⟨tn, tl⟩, htv⟩ : ∃ p, typV T 0 = p := ⟨_, rfl⟩
  rw [htv] at HTY hok hnl
  simp only at hok hnl
  have hcap := h.cap
  have hsm := h.small
  unfold maxLen at hsm
  have c1 := HT0.out.cell1
  clear h0 h h1 hb0 htv hrow hfit
  by_cases hm : m ≤ 40
  · have hmi : (m : Int) ≤ 40 := by omega
    go_enter Try.func3, Try.ntmps3
    go_wp2_with fail
    generalize w.alloc (.cells #[.int .i64 n, .slice A m c] 24) = w1 at *
    have hts : w.heap.size < w1.heap.size := HT0.out.lt
    refine HOF.out.mono ?_
    rintro e w2 ⟨b, rfl, hts2, hge, hb2⟩
    have HTS := Lib.hid hts2
    have HB2 := Lib.hid hb2
    clear hts2 hb2 HOF c1
    go_wp2_with fail
    refine (HTY.out b w2 HTS.out).mono ?_
    rintro e w3 ⟨A3, m3, c3, rfl, hx3, _, ho⟩
    have hb3 := HB2.out.trans (ho.below hge HB2.out.size)
    have hb4 := hb3.alloc hb3.size (.cells #[.int .i64 tn, .slice A3 m3 c3] 24)
    have HB4 := Lib.hid (Below.then HB0.out hb4 (Nat.le_refl _))
    have HT4 := Lib.hid (HT0.out.go hb4)
    have HX4 := Lib.hid (HX0.out.go hb4)
    have HU4 := Lib.hid (TyB.new (w := w3) (n := tn) (A := A3) (m := m3) (c := c3))
    have HY4 := Lib.hid (hx3.go ((Below.refl w3.heap.size w3).alloc (Nat.le_refl _) (.cells #[.int .i64 tn, .slice A3 m3 c3] 24)))
    have hm3 : m3 ≤ 40 := by have h9 : tl.length = m3 := hx3.len; omega
    have HE1 := Lib.hid (encode_any n A m c l _ HX4.out hm)
    unfold EncE at HE1
    have HE2 := Lib.hid (fun W (hW : Exs W W.heap.size A m c l) => encodeR_any n A m c l W hW hm)
    have HE3 := Lib.hid (fun W (hW : Exs W W.heap.size A3 m3 c3 tl) => encode_any tn A3 m3 c3 tl W hW hm3)
    have HE4 := Lib.hid (fun W (hW : Exs W W.heap.size A3 m3 c3 tl) => encodeR_any tn A3 m3 c3 tl W hW hm3)
    unfold EncE at HE2 HE3 HE4
    have c0 := HT4.out.cell0
    have c1 := HT4.out.cell1
    clear hx3 ho hb3 hb4 HTS HB2 HTY HB0 HT0 HX0 hok hnl
    generalize encO n l = E1 at *
    generalize encO tn tl = E2 at *
    generalize chk n l = k1 at *
    generalize chk tn tl = k2 at *
    obtain ⟨T1, hT1⟩ : ∃ T1, strOfNums E1 = T1 := ⟨_, rfl⟩
    obtain ⟨T2, hT2⟩ : ∃ T2, strOfNums E2 = T2 := ⟨_, rfl⟩
    have HT1 := Lib.hid hT1
    have HT2 := Lib.hid hT2
    clear hT1 hT2
    go_wp2_with fail
    generalize w3.alloc (.cells #[.int .i64 tn, .slice A3 m3 c3] 24) = w4 at *
    generalize w3.heap.size = t3 at *
    refine HE1.out.mono ?_
    rintro e w5 ⟨v5, rfl, ho5, hb5⟩
    obtain ⟨A5, n5, c5, rfl, hr5⟩ := ho5.shape
    have HR5 := Lib.hid hr5
    have HB5 := Lib.hid (Below.then HB4.out hb5 (Nat.le_refl _))
    have HT5 := Lib.hid (HT4.out.go hb5)
    have HX5 := Lib.hid (HX4.out.go hb5)
    have HU5 := Lib.hid (HU4.out.go hb5)
    have HY5 := Lib.hid (HY4.out.go hb5)
    clear ho5 hr5 hb5 HE1 HB4 HT4 HX4 HU4 HY4 c0 c1
    have c0 := HT5.out.cell0
    have c1 := HT5.out.cell1
    go_wp2_with fail
    refine (HE2.out w5 HX5.out).mono ?_
    rintro e w6 ⟨v6, rfl, ho6, hb6⟩
    obtain ⟨A6, n6, c6, rfl, hr6⟩ := ho6.shape
    have HR6 := Lib.hid hr6
    have HQ6 := Lib.hid (HR5.out.go hb6)
    have HB6 := Lib.hid (Below.then HB5.out hb6 (Nat.le_refl _))
    have HU6 := Lib.hid (HU5.out.go hb6)
    have HY6 := Lib.hid (HY5.out.go hb6)
    clear ho6 hr6 hb6 HE2 HB5 HT5 HX5 HU5 HY5 HR5 c0 c1
    have c0 := HU6.out.cell0
    have c1 := HU6.out.cell1
    go_wp2_with fail
    refine (HE3.out w6 HY6.out).mono ?_
    rintro e w7 ⟨v7, rfl, ho7, hb7⟩
    obtain ⟨A7, n7, c7, rfl, hr7⟩ := ho7.shape
    have HR7 := Lib.hid hr7
    have HP7 := Lib.hid (HR6.out.go hb7)
    have HQ7 := Lib.hid (HQ6.out.go hb7)
    have HB7 := Lib.hid (Below.then HB6.out hb7 (Nat.le_refl _))
    have HU7 := Lib.hid (HU6.out.go hb7)
    have HY7 := Lib.hid (HY6.out.go hb7)
    clear ho7 hr7 hb7 HE3 HB6 HU6 HY6 HR6 HQ6 c0 c1
    have c0 := HU7.out.cell0
    have c1 := HU7.out.cell1
    go_wp2_with fail
    refine (HE4.out w7 HY7.out).mono ?_
    rintro e w8 ⟨v8, rfl, ho8, hb8⟩
    obtain ⟨A8, n8, c8, rfl, hr8⟩ := ho8.shape
    have HS8 := Lib.hid hr8
    have HR8 := Lib.hid (HR7.out.go hb8)
    have HP8 := Lib.hid (HP7.out.go hb8)
    have HQ8 := Lib.hid (HQ7.out.go hb8)
    have HB8 := Lib.hid (Below.then HB7.out hb8 (Nat.le_refl _))
    clear ho8 hr8 hb8 HE4 HB7 HU7 HY7 HR7 HP7 HQ7 c0 c1
    go_wp2_with fail
    refine (awake9_any w8).mono ?_
    rintro e w9 ⟨rfl, hb9⟩
    have t1 := bts_as (HQ8.out.go hb9) HT1
    have t2 := bts_as (HP8.out.go hb9) HT1
    have t3 := bts_as (HR8.out.go hb9) HT2
    have t4 := bts_as (HS8.out.go hb9) HT2
    have HB9 := Lib.hid (Below.then HB8.out hb9 (Nat.le_refl _))
    clear hb9 HQ8 HP8 HR8 HS8 HB8
    go_wp2
    go_ret
    exact ⟨rfl, HB9.out⟩
  · have hmi : ¬ (m : Int) ≤ 40 := by omega
    have hmj : (40 : Int) < (m : Int) := by omega
    go_enter Try.func3, Try.ntmps3
    go_wp2_with fail
    generalize w.alloc (.cells #[.int .i64 n, .slice A m c] 24) = w1 at *
    refine (awake9_any w1).mono ?_
    rintro e w2 ⟨rfl, hb⟩
    have HB2 := Lib.hid (Below.then HB0.out hb (Nat.le_refl _))
    clear hb
    go_wp2
    go_ret
    exact ⟨rfl, HB2.out⟩
end Go.Proofs.Ytebbnkjjebfgeaa
