/-
  The law TypecodeBack as a walk. No conditions.
-/
import Derived.Test.YtebbnkjjebfgeaaTca
import Derived.Test.YtebbnkjjebfgeaaMde
namespace Go.Proofs.Ytebbnkjjebfgeaa
open Go.ChangeShapes Go.WideShapes Go.RowKit
set_option linter.unusedVariables false
set_option maxHeartbeats 4000000
set_option maxRecDepth 100000

theorem typecodeBack_walk (a0 : Option Addr) (len0 cap0 : Nat) (z0 : List Int) (a1 : Option Addr) (len1 cap1 : Nat) (z1 : List Int) (w : World) (h0 : IsRow .u16 w a0 len0 cap0 z0) (h1 : IsRow .u8 w a1 len1 cap1 z1) :
    Calls Try.prog 6 #[.slice a0 len0 cap0, .slice a1 len1 cap1] w fun e w' => e = .returned (.bool true) ∧ Below w.heap.size w w' := by
  obtain ⟨hrow, hfit⟩ := h0.row
  generalize z0.take len0 = L at hrow hfit
  obtain ⟨hrow1, hfit1⟩ := h1.row
  generalize z1.take len1 = more at hrow1 hfit1
  have HM := Lib.hid hrow1.bts
  have HMS := Lib.hid hfit1.small
  have HML := Lib.hid hrow1.bts.len
  have hcap := hrow1.cap
  have hsm := hrow1.small
  unfold maxLen at hsm
  have HOF := Lib.hid (of_any a0 len0 cap0 L 30 _ hrow (by omega))
  have HFT := Lib.hid (hfit.take 30)
  generalize L.take 30 = T at *
  obtain ⟨hok, hnl⟩ := typ_ok T 0
  have HTY := Lib.hid (fun b W (hW : TS W b T 0) => type_any b 0 T W hW HFT.out (by omega))
  obtain ⟨⟨tn, tl⟩, htv⟩ : ∃ p, typV T 0 = p := ⟨_, rfl⟩
  rw [htv] at HTY hok hnl
  simp only at hok hnl
  have hchk : chk tn tl = 0 := (made_places hok (by omega)).1
  clear h0 h1 htv hrow hfit hrow1 hfit1
  by_cases hm : len1 ≤ 40
  · have hmi : (len1 : Int) ≤ 40 := by omega
    have hlen := encT_len (n := tn) (l := tl) (by omega) (by omega) (Low.of fun f hf => (hok f hf).1)
    have HDB := Lib.hid (dc_back hchk more)
    have HDC := Lib.hid (fun k hk => dc_cut hchk (k := k) hk)
    have HES : Hid (Small (encT tn tl)) := Lib.hid encT_small
    have heo : encO tn tl = encT tn tl := by unfold encO; rw [if_pos hchk]
    have HEO := Lib.hid heo
    have HCK := Lib.hid hchk
    have htl5 : tl.length ≤ 5 := by omega
    clear hchk heo hok hnl
    go_enter Try.func6, Try.ntmps6
    go_wp2_with fail
    refine HOF.out.mono ?_
    rintro e w2 ⟨b, rfl, hts2, hge, hb2⟩
    have HTS := Lib.hid hts2
    have HB2 := Lib.hid hb2
    clear hts2 hb2 HOF
    go_wp2_with fail
    refine (HTY.out b w2 HTS.out).mono ?_
    rintro e w3 ⟨A3, m3, c3, rfl, hx3, _, ho⟩
    have hb3 := HB2.out.trans (ho.below hge HB2.out.size)
    have hb4 := hb3.alloc hb3.size (.cells #[.int .i64 tn, .slice A3 m3 c3] 24)
    have HB4 := Lib.hid hb4
    have HU4 := Lib.hid (TyB.new (w := w3) (n := tn) (A := A3) (m := m3) (c := c3))
    have HY4 := Lib.hid (hx3.go ((Below.refl w3.heap.size w3).alloc (Nat.le_refl _) (.cells #[.int .i64 tn, .slice A3 m3 c3] 24)))
    have hm3 : m3 ≤ 40 := by have h9 : tl.length = m3 := hx3.len; omega
    have HE1 := Lib.hid (encode_any tn A3 m3 c3 tl _ HY4.out hm3)
    unfold EncE at HE1
    rw [HEO.out, HCK.out] at HE1
    have c0 := HU4.out.cell0
    have c1 := HU4.out.cell1
    clear hx3 ho hb3 hb4 HTS HB2 HTY
    generalize hET : encT tn tl = E at *
    have hE1 : E.length ≤ 36 := by omega
    clear hET
    go_wp2_with fail
    generalize w3.alloc (.cells #[.int .i64 tn, .slice A3 m3 c3] 24) = w4 at *
    generalize w3.heap.size = t3 at *
    refine HE1.out.mono ?_
    rintro e w5 ⟨v5, rfl, ho5, hb5⟩
    obtain ⟨A5, n5, c5, rfl, hr5⟩ := ho5.shape
    have hn5 : E.length = n5 := hr5.len
    have hcap5 := hr5.cap
    have hsm5 := hr5.small
    unfold maxLen at hsm5
    have HR5 := Lib.hid hr5
    have HB5 := Lib.hid (Below.then HB4.out hb5 (Nat.le_refl _))
    have HU5 := Lib.hid (HU4.out.go hb5)
    have HY5 := Lib.hid (HY4.out.go hb5)
    clear ho5 hr5 hb5 HE1 HB4 HU4 HY4 c0 c1
    obtain ⟨i0, hi, hz0, hz1, hz2⟩ := info_parts info8
    go_wp2_with (first
      | (at_builtin; refine wpList_appB _ rfl (.tmp 28) (.tmp 29) 30 rfl rfl Try.underlying30 hi hz0 hz1 hz2 (base := w5.heap.size) (xs := []) (World.ownsRow_lit w5 #[] 0 (Nat.le_refl _) (Nat.zero_le _) rfl) rfl (HR5.out.alloc _) rfl (by simp; omega) (by simp) ?_
         intro v6 w6 ho6 hb6
         have hb6' : Below w5.heap.size w5 w6 := ((Below.refl _ _).alloc (Nat.le_refl _) _).trans hb6
         have HO6 : Hid (OwnB w6 w5.heap.size v6 E) := Lib.hid (by simpa using ho6)
         have HB6 := Lib.hid hb6'
         have HM6 := Lib.hid ((HM.out.below HB5.out).more HB5.out.size |>.go hb6')
         clear ho6 hb6 hb6')
      | (at_builtin; refine wpList_appB _ rfl (.tmp 30) (.tmp 31) 30 rfl rfl Try.underlying30 hi hz0 hz1 hz2 HO6.out rfl HM6.out rfl (by omega) HB6.out.size ?_
         intro v7 w7 ho7 hb7
         obtain ⟨A7, n7, c7, rfl, hr7⟩ := ho7.shape
         have hn7 : n7 ≤ 1000 := by
           have := hr7.len
           have := HML.out
           rw [List.length_append] at *
           omega
         have HR7 := Lib.hid hr7
         have hb7' := HB6.out.trans hb7
         have HB7 := Lib.hid hb7'
         have HD7 := Lib.hid (decode_any A7 n7 c7 (E ++ more) w7 hr7 (fun x hx => by
           rcases List.mem_append.1 hx with hx | hx
           · exact HES.out x hx
           · exact HMS.out x hx) (by omega))
         clear ho7 hr7 hb7 hb7'))
    unfold DcE at HD7
    obtain ⟨e1, e2, e3, e4⟩ := HDB.out
    rw [e1, e2, e3, e4, hn5] at HD7
    have HN5 := Lib.hid hn5
    have HU7 := Lib.hid (HU5.out.go HB7.out)
    have HY7 := Lib.hid (HY5.out.go HB7.out)
    have HE7 := Lib.hid (HR5.out.go HB7.out)
    have HW7 := Lib.hid (Below.then HB5.out HB7.out (Nat.le_refl _))
    clear e1 e2 e3 e4 hn5 HDB HU5 HY5 HR5 HB5 HO6 HB6 HM6 HR7 HB7 hi hz0 hz1 hz2
    refine HD7.out.mono ?_
    rintro e w8 ⟨A8, m8, c8, rfl, hx8, hb8⟩
    have hb9 := hb8.alloc hb8.size (.cells #[.int .i64 tn, .slice A8 m8 c8] 24)
    have HW9 := Lib.hid (Below.then HW7.out hb9 (Nat.le_refl _))
    have HU9 := Lib.hid (HU7.out.go hb9)
    have HY9 := Lib.hid (HY7.out.go hb9)
    have HE9 := Lib.hid (HE7.out.go hb9)
    have HV9 := Lib.hid (TyB.new (w := w8) (n := tn) (A := A8) (m := m8) (c := c8))
    have HX9 := Lib.hid (hx8.go ((Below.refl w8.heap.size w8).alloc (Nat.le_refl _) (.cells #[.int .i64 tn, .slice A8 m8 c8] 24)))
    have HS := Lib.hid (sameType_any tn tn _ _ _ _ _ _ _ _ _ HY9.out HX9.out)
    rw [eqT_self] at HS
    have c0 := HU9.out.cell0
    have c1 := HU9.out.cell1
    have d0 := HV9.out.cell0
    have d1 := HV9.out.cell1
    clear hx8 hb8 hb9 HD7 HW7 HU7 HY7 HE7
    go_wp2_with fail
    generalize w8.alloc (.cells #[.int .i64 tn, .slice A8 m8 c8] 24) = w9 at *
    generalize w8.heap.size = t8 at *
    refine HS.out.mono ?_
    rintro e w10 ⟨rfl, hb10⟩
    have HW10 := Lib.hid (Below.then HW9.out hb10 (Nat.le_refl _))
    have HE10 := Lib.hid (HE9.out.go hb10)
    clear hb10 HS c0 c1 d0 d1 HW9 HU9 HY9 HE9 HV9 HX9
    go_wp2
    go_loopw [11] (fun kv wr => ∃ (j : Nat), j ≤ n5 ∧ kv = .int .i64 j ∧ Hid (Below w10.heap.size w10 wr)) (fun kv _ => n5 - (intOf kv).toNat)
    case atStart => exact ⟨0, by omega, rfl, Lib.hid (Below.refl _ _)⟩
    case round =>
      obtain ⟨j, hj, rfl, HBr⟩ := hrel
      by_cases hjm : j < n5
      · have hj1 : (j : Int) < (n5 : Int) := by omega
        have hj2 : (j : Int) ≤ (c5 : Int) := by omega
        have hrw := (HE10.out.go HBr.out).take (k := j) (by omega)
        have HD := Lib.hid (decode_any _ _ _ _ wr hrw (HES.out.take j) (by have := HN5.out; omega))
        unfold DcE at HD
        have h2 := HDC.out j (by rw [HN5.out]; exact hjm)
        obtain ⟨e1, e2, e3⟩ := dc_err h2 (by decide)
        rw [h2, e1, e2, e3] at HD
        clear hrw h2 e1 e2 e3
        go_wp2_with fail
        refine HD.out.mono ?_
        rintro e w11 ⟨A11, m11, c11, rfl, hx11, hb11⟩
        have HB12 := Lib.hid (Below.then HBr.out (hb11.alloc hb11.size (.cells #[.int .i64 0, .slice A11 m11 c11] 24)) (Nat.le_refl _))
        clear hx11 hb11 HD HBr
        go_wp2
        go_roundw
        case rel => exact ⟨j + 1, by omega, by go_num, Lib.hid HB12.out⟩
        case measure => simp [intOf]; omega
      · obtain rfl : j = n5 := by omega
        have hjj : ¬ (j : Int) < (j : Int) := by omega
        go_wp2_with fail
        refine (awake9_any wr).mono ?_
        rintro e w11 ⟨rfl, hb11⟩
        have HBF := Lib.hid (Below.then HW10.out (Below.then HBr.out hb11 (Nat.le_refl _)) (Nat.le_refl _))
        clear hb11
        go_wp2
        go_ret
        exact ⟨rfl, HBF.out⟩
  · have hmi : ¬ (len1 : Int) ≤ 40 := by omega
    have hmj : (40 : Int) < (len1 : Int) := by omega
    go_enter Try.func6, Try.ntmps6
    go_wp2_with fail
    refine (awake9_any w).mono ?_
    rintro e w2 ⟨rfl, hb⟩
    have HB2 := Lib.hid hb
    clear hb
    go_wp2
    go_ret
    exact ⟨rfl, HB2.out⟩
end Go.Proofs.Ytebbnkjjebfgeaa
