/-
  The law AuditGrows as a walk over any log that keeps the bundle. Conditions: the bundle.
-/
import Derived.Test.YtlgoiccekgjhnaaAbkLaw
namespace Go.Proofs.Ytlgoiccekgjhnaa
open Go.ChangeShapes Go.WideShapes Go.ChangeAt Go.RowKit
set_option linter.unusedVariables false
set_option linter.unusedSimpArgs false
set_option maxHeartbeats 8000000
set_option maxRecDepth 100000

theorem apE_ok {cap : Int} {L : List Ev5} {x : Ev5} (hx : chkV x.p x.o x.e = 0) (h : (rcN L x.p : Int) < cap) : apE cap L x = 0 := by
  unfold apE
  rw [if_neg (by omega), if_neg (fun h' => by omega)]
/-- The maker's event out of an argument. -/
theorem evx_made {w0 w : World} {b : Nat} {L : List Int} (ht : TS w b L 0) (hge : w0.heap.size ≤ b) (hb : Below w0.heap.size w0 w) (hf : Fit .u16 L) :
    Calls Try.prog 14 #[.pointer (some ⟨b, 0, none⟩)] w fun x w' => ∃ y : Ev5, Good y ∧ x = .returned (evA y) ∧ Below w0.heap.size w0 w' :=
  (event_any b 0 L w ht hf (by omega)).mono fun x w' hx => by
    obtain ⟨p, o, h, a, e, j, ⟨hc, _⟩, hh, ha, _, rfl, _, ho⟩ := hx
    exact ⟨⟨p, o, h, a, e⟩, ⟨hc, hh, ha⟩, rfl, hb.trans (ho.below hge hb.size)⟩
theorem OwnB.lt_ {w : World} {base g : Nat} {v : Value} {l : List Int} (h : OwnB w base v l) (hg : v.ownBlock = some g) : base ≤ g ∧ g < w.heap.size := World.ownsRow.lt h g hg
theorem OwnB.keptC {w w' : World} {c : Nat → Nat} {k base : Nat} {v : Value} {l : List Int} (h : OwnB w base v l) (hk : Kept c k w w') (hne : ∀ g, v.ownBlock = some g → c g ≠ k) : OwnB w' base v l := by
  refine ⟨h.1, ?_⟩
  rcases h.2 with h0 | ⟨g, cap, cur, rfl, hbg, hg, rest⟩
  · exact .inl h0
  · exact .inr ⟨g, cap, cur, rfl, hbg, (hk.block g (Array.getElem?_eq_some_iff.1 hg).1 (hne g rfl)).trans hg, rest⟩
section
variable {Lg : LgP} (C : AuC Lg)
include C
theorem auditGrows_all (a0 : Option Addr) (len0 cap0 : Nat) (z0 : List Int) (a1 : Option Addr) (len1 cap1 : Nat) (z1 : List Int) (w : World) (w0 : IsRow .u16 w a0 len0 cap0 z0) (w1 : IsRow .u16 w a1 len1 cap1 z1) :
    Calls Try.prog 7 #[.slice a0 len0 cap0, .slice a1 len1 cap1] w fun e w' => e = .returned (.bool true) ∧ Below w.heap.size w w' := by
  obtain ⟨i8, hi8, hz0, hz1, hz2⟩ := info_parts info8
  have HI := Lib.hid hi8
  have HZ0 := Lib.hid hz0
  have HZ1 := Lib.hid hz1
  have HZ2 := Lib.hid hz2
  obtain ⟨hrow, hfit⟩ := w0.row
  generalize z0.take len0 = T0 at hrow hfit
  obtain ⟨hrow2, hfit2⟩ := w1.row
  generalize z1.take len1 = T1 at hrow2 hfit2
  have HOF := Lib.hid (fun W (hW : Below w.heap.size w W) => of_any a0 len0 cap0 T0 100 W ((hrow.below hW).more hW.size) (by omega))
  have HOG := Lib.hid (fun W (hW : Below w.heap.size w W) => of_any a1 len1 cap1 T1 12 W ((hrow2.below hW).more hW.size) (by omega))
  have HFT := Lib.hid (hfit.take 100)
  have HGT := Lib.hid (hfit2.take 12)
  have htl : (T0.take 100).length ≤ 900 := by rw [List.length_take]; omega
  generalize T0.take 100 = T at *
  generalize T1.take 12 = T2 at *
  have HN := Lib.hid (C.newOk 100 w (fun _ => 0) 1 (by omega) (by omega))
  have HTL := Lib.hid htl
  clear w0 w1 hrow hfit hrow2 hfit2 htl hi8 hz0 hz1 hz2
  go_enter Try.func7, Try.ntmps7
  go_wp2_with fail
  refine HN.out.mono ?_
  rintro e w1 ⟨p, rfl, hp, hL, hb⟩
  have h1 : Al Lg w (rc (fun _ => 0) w.heap.size 1) p 100 [] [] w1 := ⟨fun g hg => rc_old hg, hb, hL⟩
  have HA1 := Lib.hid h1
  have HOC := Lib.hid (HOF.out w1 hb)
  clear HN hp hL hb h1 HOF
  go_wp2_with fail
  refine HOC.out.mono ?_
  rintro e w2 ⟨b, rfl, hts2, hge, hb2⟩
  have HEV := Lib.hid (evs_made (w0 := w1) (most := 12) hts2 hge hb2 HFT.out HTL.out (by omega))
  clear hts2 hb2 HOC hge
  go_wp2_with fail
  refine HEV.out.mono ?_
  rintro e w3 ⟨v3, l, rfl, hgl, hll, hov, hb3⟩
  obtain ⟨c3, hA3, hold3, hnew3⟩ := Al.go C HA1.out hb3
  obtain ⟨A, n, cp, rfl, hk3⟩ := hov.shape
  have hcapn := hk3.cap
  have hsmn := hk3.small
  have hlen := hk3.len
  unfold maxLen at hsmn
  have HST : Hid (∃ c L, Al Lg w c p 100 L [] w3 ∧ OwD 0 w.heap.size ev5 27 w3 c (.slice A n cp) l ∧ Goods L ∧ L.length ≤ 0) :=
    Lib.hid ⟨c3, [], hA3, ⟨hov.down (by have := HA1.out.2.1.size; omega), fun g hg => hnew3 g (hov.ge hg).1⟩, Goods.nil, Nat.le_refl _⟩
  have HGL := Lib.hid hgl
  clear HEV hgl hov hb3 hA3 hold3 hnew3 HA1 hk3
  go_wp2
  go_loopw [24] (fun kv wr => ∃ i : Nat, i ≤ n ∧ kv = .int .i64 i ∧ Hid (∃ c L, Al Lg w c p 100 L [] wr ∧ OwD 0 w.heap.size ev5 27 wr c (.slice A n cp) l ∧ Goods L ∧ L.length ≤ i)) (fun kv _ => n - (intOf kv).toNat)
  case atStart => exact ⟨0, Nat.zero_le _, rfl, HST⟩
  case round =>
    obtain ⟨i, hi, rfl, hh⟩ := hrel
    obtain ⟨c, L, hA, hE, hG, hLl⟩ := hh.out
    clear HST
    by_cases hin : i < n
    · have hi1 : (i : Int) < (n : Int) := by omega
      obtain ⟨bb, ob, x, hx, rfl, hbb, g0, g1, g2, g3, g4⟩ := hE.kws.ev_ hin
      have hgx := HGL.out x (List.mem_of_getElem? hx)
      obtain ⟨xp, xo, xh, xa, xe⟩ := x
      simp only at g0 g1 g2 g3 g4
      have hb4 : Below wr.heap.size wr (wr.alloc (.cells #[.int .i64 xp, .int .i64 xo, .int .u64 xh, .int .u64 xa, .int .i64 xe] 27)) := (Below.refl _ _).alloc (Nat.le_refl _) _
      obtain ⟨c4, hA4, hold4, hnew4⟩ := Al.go C hA hb4
      have HE4 := Lib.hid (hE.go hb4 hold4)
      have hx4 := EvB.new (w := wr) (p := xp) (o := xo) (h := xh) (a := xa) (e := xe)
      obtain ⟨q0, q1, q2, q3, q4⟩ := hx4.cells
      have HAP := Lib.hid (Al.append C ⟨xp, xo, xh, xa, xe⟩ hA4 (by omega) hgx.2)
      have HGG : Hid (Goods (apL 100 L ⟨xp, xo, xh, xa, xe⟩)) := Lib.hid (apL_good hG hgx.2)
      have HLL : Hid ((apL 100 L ⟨xp, xo, xh, xa, xe⟩).length ≤ i + 1) := Lib.hid (by
        unfold apL
        split
        · simp; omega
        · omega)
      generalize apE 100 L ⟨xp, xo, xh, xa, xe⟩ = E at *
      generalize apL 100 L ⟨xp, xo, xh, xa, xe⟩ = LL at *
      clear hh hA hE hG hx hbb hgx hb4 hA4 hold4 hnew4 hx4
      go_wp2_with fail
      generalize wr.alloc (.cells #[.int .i64 xp, .int .i64 xo, .int .u64 xh, .int .u64 xa, .int .i64 xe] 27) = w4 at *
      generalize wr.heap.size = tr at *
      refine HAP.out.mono ?_
      rintro e w5 ⟨rfl, c5, hA5, hk5, hold5⟩
      have HF : Hid (∃ c L', Al Lg w c p 100 L' [] w5 ∧ OwD 0 w.heap.size ev5 27 w5 c (.slice (some ⟨bb, ob, none⟩) n cp) l ∧ Goods L' ∧ L'.length ≤ i + 1) := Lib.hid ⟨c5, LL, hA5, HE4.out.kept hk5 (by omega) hold5, HGG.out, HLL.out⟩
      clear HAP HE4 hA5 hk5 hold5 HGG HLL q0 q1 q2 q3 q4 g0 g1 g2 g3 g4
      go_wp2
      go_roundw
      case rel => exact ⟨i + 1, by omega, by go_num, HF⟩
      case measure => simp [intOf]; omega
    · obtain rfl : i = n := by omega
      have hd : ¬ (i : Int) < (i : Int) := by omega
      have hl12 : L.length ≤ 12 := by omega
      have HG := Lib.hid hG
      have HA := Lib.hid hA
      have HBY := Lib.hid (C.bytes hA.2.2 (by omega) hG)
      have hlbb := (lgB_len (d := start) hG).1
      unfold Made at HBY
      clear hh hA hE hG HGL
      go_wp2_with fail
      refine HBY.out.mono ?_
      rintro e w5 ⟨v5, rfl, ho5, hb5⟩
      obtain ⟨A5, n5, c5, rfl, hr5⟩ := ho5.shape
      have hn5 : n5 ≤ 708 := by have := hr5.len; omega
      have hcap5 := hr5.cap
      have hsm5 := hr5.small
      unfold maxLen at hsm5
      obtain ⟨k5, hA5, hold5, hnew5⟩ := Al.go C HA.out hb5
      have HO5 : Hid (OwnB w5 wr.heap.size (.slice A5 n5 c5) (lgB start L) ∧ ∀ g, (Value.slice A5 n5 c5).ownBlock = some g → k5 g = 0) := Lib.hid ⟨ho5, fun g hg => hnew5 g (ho5.lt_ hg).1⟩
      have HA5 := Lib.hid hA5
      have HDG := Lib.hid (C.digest hA5.2.2 (by omega) HG.out)
      have hdb := lst_bd start_bd.1 start_bd.2 (L.map eo)
      have HLD : Hid (lgD start L = lst start (L.map eo)) := Lib.hid rfl
      rw [← HLD.out] at hdb
      clear ho5 hr5 hb5 hA5 hold5 hnew5 HBY HA
      go_wp2_with fail
      refine HDG.out.mono ?_
      rintro e w6 ⟨rfl, hb6⟩
      obtain ⟨k6, hA6, hold6, hnew6⟩ := Al.go C HA5.out hb6
      have HO6 : Hid (OwnB w6 wr.heap.size (.slice A5 n5 c5) (lgB start L) ∧ ∀ g, (Value.slice A5 n5 c5).ownBlock = some g → k6 g = 0) := Lib.hid ⟨HO5.out.1.below hb6, fun g hg => by rw [hold6 g (HO5.out.1.lt_ hg).2]; exact HO5.out.2 g hg⟩
      have HA6 := Lib.hid hA6
      have HOC := Lib.hid (HOG.out w6 (hA6.2.1))
      clear hb6 hA6 hold6 hnew6 HDG HA5 HO5
      go_wp2_with fail
      refine HOC.out.mono ?_
      rintro e w7 ⟨b7, rfl, hts7, hge7, hb7⟩
      have HEV := Lib.hid (evx_made (w0 := w6) hts7 hge7 hb7 HGT.out)
      clear hts7 hb7 HOC hge7
      go_wp2_with fail
      refine HEV.out.mono ?_
      rintro e w8 ⟨y, hgy, rfl, hb8⟩
      obtain ⟨yp, yo, yh, ya, ye⟩ := y
      have hb9 : Below w6.heap.size w6 (w8.alloc (.cells #[.int .i64 yp, .int .i64 yo, .int .u64 yh, .int .u64 ya, .int .i64 ye] 27)) := hb8.alloc hb8.size _
      obtain ⟨k9, hA9, hold9, hnew9⟩ := Al.go C HA6.out hb9
      have hy9 := EvB.new (w := w8) (p := yp) (o := yo) (h := yh) (a := ya) (e := ye)
      have HY9 := Lib.hid hy9
      have HZ9 := Lib.hid (hnew9 w8.heap.size hb8.size)
      have HO9 : Hid (OwnB (w8.alloc (.cells #[.int .i64 yp, .int .i64 yo, .int .u64 yh, .int .u64 ya, .int .i64 ye] 27)) wr.heap.size (.slice A5 n5 c5) (lgB start L) ∧ ∀ g, (Value.slice A5 n5 c5).ownBlock = some g → k9 g = 0) := Lib.hid ⟨HO6.out.1.below hb9, fun g hg => by rw [hold9 g (HO6.out.1.lt_ hg).2]; exact HO6.out.2 g hg⟩
      have hap : apE 100 L ⟨yp, yo, yh, ya, ye⟩ = 0 := apE_ok hgy.1 (by have := rcN_le L yp; simp only; omega)
      have HAP := Lib.hid (Al.append C ⟨yp, yo, yh, ya, ye⟩ hA9 (by omega) hgy.2)
      rw [hap, apL_ok hap] at HAP
      obtain ⟨q0, q1, q2, q3, q4⟩ := hy9.cells
      have HGY := Lib.hid hgy
      clear hb8 hb9 hA9 hold9 hnew9 hy9 HEV HA6 HO6 hap hgy
      go_wp2_with fail
      generalize w8.alloc (.cells #[.int .i64 yp, .int .i64 yo, .int .u64 yh, .int .u64 ya, .int .i64 ye] 27) = w9 at *
      generalize w8.heap.size = ty at *
      refine HAP.out.mono ?_
      rintro e w10 ⟨rfl, k10, hA10, hk10, hold10⟩
      have HO10 : Hid (OwnB w10 wr.heap.size (.slice A5 n5 c5) (lgB start L)) := Lib.hid (HO9.out.1.keptC hk10 (fun g hg => by rw [HO9.out.2 g hg]; omega))
      have HY10 : Hid (EvB w10 ty yp yo yh ya ye) := Lib.hid ((hk10.block ty HY9.out.lt (by rw [HZ9.out]; omega)).trans HY9.out)
      have HG10 : Hid (Goods (L ++ [⟨yp, yo, yh, ya, ye⟩])) := Lib.hid (HG.out.app (Goods.one HGY.out))
      have HA10 := Lib.hid hA10
      have HBY := Lib.hid (C.bytes hA10.2.2 (by simp; omega) HG10.out)
      have HLS := Lib.hid (lgB_snoc start L ⟨yp, yo, yh, ya, ye⟩)
      unfold Made at HBY
      rw [HLS.out] at HBY
      have HRC : Hid (rcd (lgD start L) ⟨yp, yo, yh, ya, ye⟩ = encB (eo ⟨yp, yo, yh, ya, ye⟩) ++ low 8 (chn (lgD start L) (eo ⟨yp, yo, yh, ya, ye⟩))) := Lib.hid rfl
      have HRL := Lib.hid (rcd_len (d := lgD start L) HGY.out)
      have HDS := Lib.hid (lgD_snoc start L ⟨yp, yo, yh, ya, ye⟩)
      have HEL := Lib.hid HGY.out.len
      clear hA10 hk10 hold10 HAP HO9 HY9 HZ9 q0 q1 q2 q3 q4 HG
      go_wp2_with fail
      refine HBY.out.mono ?_
      rintro e w11 ⟨v11, rfl, ho11, hb11⟩
      obtain ⟨A11, n11, c11, rfl, hr11⟩ := ho11.shape
      have hn11 : n11 = n5 + (rcd (lgD start L) ⟨yp, yo, yh, ya, ye⟩).length := by
        have h1 := hr11.len
        have h2 := (OwnB.len HO10.out).len
        rw [List.length_append] at h1
        omega
      have hcap11 := hr11.cap
      have hsm11 := hr11.small
      unfold maxLen at hsm11
      have HR11 := Lib.hid hr11
      have HB11 := Lib.hid hb11
      have HO11 := Lib.hid ((OwnB.len HO10.out).go hb11)
      obtain ⟨q0, q1, q2, q3, q4⟩ := (HY10.out.go hb11).cells
      have HEN := Lib.hid (encodeR_any yp yo yh ya ye w11 HGY.out.2.1 HGY.out.2.2)
      unfold EncE at HEN
      have HXE : Hid (encO yp yo yh ya ye = eo ⟨yp, yo, yh, ya, ye⟩) := Lib.hid rfl
      rw [HXE.out] at HEN
      have HSE : Hid (Small (eo ⟨yp, yo, yh, ya, ye⟩)) := Lib.hid eo_small
      generalize eo ⟨yp, yo, yh, ya, ye⟩ = ex at *
      generalize rcd (lgD start L) ⟨yp, yo, yh, ya, ye⟩ = rx at *
      clear ho11 hr11 hb11 HBY HY10 HO10
      go_wp2_with fail
      refine HEN.out.mono ?_
      rintro e w12 ⟨v12, rfl, ho12, hb12⟩
      obtain ⟨A12, n12, c12, rfl, hr12⟩ := ho12.shape
      have hn12 : n12 ≤ 50 := by have := hr12.len; have := HEL.out.1; omega
      have HR12 := Lib.hid hr12
      have HB12 := Lib.hid (Below.then HB11.out hb12 (Nat.le_refl _))
      have HR11' := Lib.hid (HR11.out.go hb12)
      have HO12 := Lib.hid (HO11.out.go hb12)
      have HPB := Lib.hid (putBytesR_any none 0 0 [] A12 n12 c12 ex w12 Bts.none_ hr12 (by omega) (by omega))
      unfold Made at HPB
      clear ho12 hr12 hb12 HEN HB11 HR11 HO11 q0 q1 q2 q3 q4
      go_wp2_with fail
      refine HPB.out.mono ?_
      rintro e w13 ⟨v13, rfl, ho13, hb13⟩
      have HO13 : Hid (OwnB w13 w12.heap.size v13 (encB ex)) := Lib.hid (by simpa using ho13)
      have HK13 := Lib.hid hb13
      have HCH := Lib.hid (chainR_any (lgD start L) A12 n12 c12 ex w13 (HR12.out.go hb13).row HSE.out.fit (by omega))
      have hcb := chn_bd (lgD start L) ex
      have HCL := Lib.hid (fun W (hW : Below w12.heap.size w12 W) => chainR_any (lgD start L) A12 n12 c12 ex W (HR12.out.go hW).row HSE.out.fit (by omega))
      obtain ⟨dx, hdx⟩ : ∃ dx, chn (lgD start L) ex = dx := ⟨_, rfl⟩
      unfold NumW at HCH HCL
      rw [hdx] at HCH hcb HRC HDS HCL
      obtain ⟨A13, n13, c13, rfl, hr13⟩ := HO13.out.shape
      clear ho13 hb13 HPB hr13
      go_wp2_with fail
      refine HCH.out.mono ?_
      rintro e w14 ⟨rfl, hb14⟩
      have HK14 := Lib.hid (Below.then HK13.out hb14 (Nat.le_refl _))
      have HO14 := Lib.hid (HO13.out.below hb14)
      have HE8 := Lib.hid (eight_any dx w14)
      unfold MadeV at HE8
      clear hb14 HCH HO13 HK13
      go_wp2_with fail
      refine HE8.out.mono ?_
      rintro e w15 ⟨v15, rfl, ho15, hb15⟩
      obtain ⟨A15, n15, c15, rfl, hr15⟩ := ho15.bts.shape
      obtain rfl : n15 = 8 := by have := hr15.len; rw [low_len] at this; omega
      have HR15 := Lib.hid hr15
      have HK15 := Lib.hid (Below.then HK14.out hb15 (Nat.le_refl _))
      have HO15 := Lib.hid (HO14.out.below hb15)
      clear ho15 hr15 hb15 HE8 HK14 HO14
      go_wp2_with (at_builtin; go_must (refine wpList_appB _ rfl (.tmp 51) (.tmp 55) 52 rfl rfl Try.underlying52 HI.out HZ0.out HZ1.out HZ2.out HO15.out rfl HR15.out rfl (by have h1 := HEL.out.1; have h2 := encB_len h1; omega) HK15.out.size ?_); intro v16 w16 ho16 hb16)
      obtain ⟨A16, n16, c16, rfl, hr16⟩ := ho16.shape
      have hlx : n16 = rx.length := by
        have h1 := hr16.len
        rw [HRC.out]
        omega
      have hnr : rx.length ≤ 100 := by have h1 := HRL.out; have h2 := HEL.out.1; omega
      have hel := HEL.out.1
      have hk16 : Below w12.heap.size w12 w16 := HK15.out.trans hb16
      have HR16 : Hid (Bts w16 w16.heap.size A16 n16 c16 rx) := Lib.hid (by rw [HRC.out]; exact hr16)
      have HX16 := Lib.hid ((HR11'.out.below hk16).more hk16.size)
      have HW16 := Lib.hid ((HO12.out.below hk16).more hk16.size)
      have HK16 := Lib.hid hk16
      have HBT : Hid (Below w10.heap.size w10 w16) := Lib.hid (Below.then HB12.out hk16 (Nat.le_refl _))
      have HLG : Hid (∀ W, Below w16.heap.size w16 W → Calls Try.prog 26 #[.pointer (some ⟨p, 0, none⟩)] W (Says W (.int .u64 dx))) := Lib.hid (fun W hW => by
        have h1 := C.kept HA10.out.2.2 (j := 0) (c' := rc k10 w10.heap.size 0) (Kept.ofBelow (Below.then HBT.out hW (Nat.le_refl _))) (by omega) (fun g hg => rc_old hg)
        have h2 := C.digest h1 (by simp; omega) HG10.out
        rw [HDS.out] at h2
        exact h2)
      have HCW : Hid (∀ W, Below w16.heap.size w16 W → Calls Try.prog 30 #[.int .u64 (lgD start L), .slice A12 n12 c12] W (NumW W dx)) := Lib.hid (fun W hW => HCL.out W (Below.then HK16.out hW (Nat.le_refl _)))
      have HWB : Hid (Below w.heap.size w w16) := Lib.hid (HA10.out.2.1.trans (HBT.out.mono HA10.out.2.1.size))
      have HLW := Lib.hid HW16.out.len
      unfold NumW at HCW
      clear ho16 hb16 hr16 hk16 HR15 HO15 HK15 HCL HK16 HBT HR12 HR11' HO12 HB12
      subst hlx
      subst hn11
      have hcap16 := HR16.out.cap
      have hsm16 := HR16.out.small
      unfold maxLen at hsm16
      obtain ⟨AL, hsl, hcutL⟩ := cut_hi A11 (n5 + rx.length) c11 n5 (lgB start L ++ rx) (by omega) hcap11
      obtain ⟨AR, hsr, hcutR⟩ := cut_lo A11 (n5 + rx.length) c11 n5 (lgB start L ++ rx) (by omega) hcap11
      rw [show n5 + rx.length - n5 = rx.length by omega] at hsr hcutR
      have HTL : Hid (∀ W, Below w16.heap.size w16 W → (convert 52 9 (.slice AL n5 c11)).run Try.prog W = .ok (.string (strOfNums (lgB start L))) W) := Lib.hid (fun W hW => by
        have h1 := hcutL W _ (HX16.out.below hW)
        rw [List.take_append_of_le_length (by rw [HLW.out]; exact Nat.le_refl _), List.take_of_length_le (by rw [HLW.out]; exact Nat.le_refl _)] at h1
        exact bts_run h1)
      have HTW : Hid (∀ W, Below w16.heap.size w16 W → (convert 52 9 (.slice A5 n5 c5)).run Try.prog W = .ok (.string (strOfNums (lgB start L))) W) := Lib.hid (fun W hW => bts_run (HW16.out.below hW))
      have HTR : Hid (∀ W, Below w16.heap.size w16 W → (convert 52 9 (.slice AR rx.length (c11 - n5))).run Try.prog W = .ok (.string (strOfNums rx)) W) := Lib.hid (fun W hW => by
        have h1 := hcutR W _ (HX16.out.below hW)
        rw [show (lgB start L ++ rx).drop n5 = rx by rw [← HLW.out]; simp] at h1
        exact bts_run h1)
      have HTX : Hid (∀ W, Below w16.heap.size w16 W → (convert 52 9 (.slice A16 rx.length c16)).run Try.prog W = .ok (.string (strOfNums rx)) W) := Lib.hid (fun W hW => bts_run (HR16.out.below hW))
      clear hcutL hcutR HX16 HW16 HR16
      generalize strOfNums (lgB start L) = S1 at *
      generalize strOfNums rx = S2 at *
      generalize rx.length = nr at *
      have e5 : IntKind.i64.wrap ((n5 : Int) + (nr : Int)) = (n5 : Int) + (nr : Int) := by rw [IntKind.wrap_i64]; omega
      have e6 : (((n5 + nr : Nat) : Int) == (n5 : Int) + (nr : Int)) = true := by simp
      have HD0 : Hid (Below w16.heap.size w16 w16.drew) := Lib.hid (below_drewN (Below.refl _ w16) 1)
      generalize lgD start L = dl at *
      go_wp2
      refine wp_region_hand 40 (fun W => Below w16.heap.size w16 W) (by kernel_rfl) (by kernel_rfl) ?_
      rw [show Array.replicate 40 false = #[false, false, false, false, false, false, false, false, false, false, false, false, false, false, false, false, false, false, false, false, false, false, false, false, false, false, false, false, false, false, false, false, false, false, false, false, false, false, false, false] from rfl]
      have hHeld := HD0.out
      have HCL := Lib.hid (aw17_any C w16.drew)
      refine held_one (i := 0) (by kernel_rfl) ?_
      refine held_callX (d := 57) rfl rfl (by rfl) rfl (by kernel_rfl) Try.func11 (by kernel_rfl) HCL.out ?_
      rintro e w17 ⟨rfl, hb⟩
      have HD1 := Lib.hid (Below.then HD0.out hb (Nat.le_refl _))
      clear hb
      refine ⟨_, rfl, ?_⟩
      clear HCL hHeld
      have hHeld := HD1.out
      refine ⟨hHeld, ?_⟩
      simp only [Act.put, List.setIfInBounds_toArray, List.set_cons_zero, List.set_cons_succ]
      refine held_take (i := 1) (d := 58) (v := .bool true) rfl rfl (by kernel_rfl) (by kernel_rfl) (by kernel_rfl) (fun _ _ _ h => h) (by rfl) (fun W _ => run_move_is (.tmp 57) rfl rfl W) hHeld ?_
      simp only [Act.put, List.setIfInBounds_toArray, List.set_cons_zero, List.set_cons_succ]
      refine held_take (i := 2) (d := 59) (v := .slice A11 (n5 + nr) c11) rfl rfl (by kernel_rfl) (by kernel_rfl) (by kernel_rfl) (fun _ _ _ h => h) (by rfl) (fun W _ => run_move_is (.tmp 12) rfl rfl W) hHeld ?_
      simp only [Act.put, List.setIfInBounds_toArray, List.set_cons_zero, List.set_cons_succ]
      refine held_take (i := 3) (d := 60) (v := .int .i64 ((n5 + nr : Nat) : Int)) rfl rfl (by kernel_rfl) (by kernel_rfl) (by kernel_rfl) (fun _ _ _ h => h) (by rfl) (fun W _ => by go_simp) hHeld ?_
      simp only [Act.put, List.setIfInBounds_toArray, List.set_cons_zero, List.set_cons_succ]
      refine held_take (i := 4) (d := 61) (v := .slice A5 n5 c5) rfl rfl (by kernel_rfl) (by kernel_rfl) (by kernel_rfl) (fun _ _ _ h => h) (by rfl) (fun W _ => run_move_is (.tmp 9) rfl rfl W) hHeld ?_
      simp only [Act.put, List.setIfInBounds_toArray, List.set_cons_zero, List.set_cons_succ]
      refine held_take (i := 5) (d := 62) (v := .int .i64 (n5 : Int)) rfl rfl (by kernel_rfl) (by kernel_rfl) (by kernel_rfl) (fun _ _ _ h => h) (by rfl) (fun W _ => by go_simp) hHeld ?_
      simp only [Act.put, List.setIfInBounds_toArray, List.set_cons_zero, List.set_cons_succ]
      refine held_take (i := 6) (d := 63) (v := .slice A16 nr c16) rfl rfl (by kernel_rfl) (by kernel_rfl) (by kernel_rfl) (fun _ _ _ h => h) (by rfl) (fun W _ => run_move_is (.tmp 15) rfl rfl W) hHeld ?_
      simp only [Act.put, List.setIfInBounds_toArray, List.set_cons_zero, List.set_cons_succ]
      refine held_take (i := 7) (d := 64) (v := .int .i64 (nr : Int)) rfl rfl (by kernel_rfl) (by kernel_rfl) (by kernel_rfl) (fun _ _ _ h => h) (by rfl) (fun W _ => by go_simp) hHeld ?_
      simp only [Act.put, List.setIfInBounds_toArray, List.set_cons_zero, List.set_cons_succ]
      refine held_take (i := 8) (d := 65) (v := .int .i64 ((n5 : Int) + (nr : Int))) rfl rfl (by kernel_rfl) (by kernel_rfl) (by kernel_rfl) (fun _ _ _ h => h) (by rfl) (fun W _ => by go_simp) hHeld ?_
      simp only [Act.put, List.setIfInBounds_toArray, List.set_cons_zero, List.set_cons_succ]
      refine held_take (i := 9) (d := 66) (v := .bool true) rfl rfl (by kernel_rfl) (by kernel_rfl) (by kernel_rfl) (fun _ _ _ h => h) (by rfl) (fun W _ => by go_simp) hHeld ?_
      simp only [Act.put, List.setIfInBounds_toArray, List.set_cons_zero, List.set_cons_succ]
      refine held_take (i := 10) (d := 67) (v := .bool true) rfl rfl (by kernel_rfl) (by kernel_rfl) (by kernel_rfl) (fun _ _ _ h => h) (by rfl) (fun W _ => by go_simp) hHeld ?_
      simp only [Act.put, List.setIfInBounds_toArray, List.set_cons_zero, List.set_cons_succ]
      refine held_take (i := 11) (d := 68) (v := .bool true) rfl rfl (by kernel_rfl) (by kernel_rfl) (by kernel_rfl) (fun _ _ _ h => h) (by rfl) (fun W _ => run_move_is (.tmp 67) rfl rfl W) hHeld ?_
      simp only [Act.put, List.setIfInBounds_toArray, List.set_cons_zero, List.set_cons_succ]
      refine held_take (i := 12) (d := 69) (v := .slice A11 (n5 + nr) c11) rfl rfl (by kernel_rfl) (by kernel_rfl) (by kernel_rfl) (fun _ _ _ h => h) (by rfl) (fun W _ => run_move_is (.tmp 12) rfl rfl W) hHeld ?_
      simp only [Act.put, List.setIfInBounds_toArray, List.set_cons_zero, List.set_cons_succ]
      refine held_take (i := 13) (d := 70) (v := .slice A5 n5 c5) rfl rfl (by kernel_rfl) (by kernel_rfl) (by kernel_rfl) (fun _ _ _ h => h) (by rfl) (fun W _ => run_move_is (.tmp 9) rfl rfl W) hHeld ?_
      simp only [Act.put, List.setIfInBounds_toArray, List.set_cons_zero, List.set_cons_succ]
      refine held_take (i := 14) (d := 71) (v := .int .i64 (n5 : Int)) rfl rfl (by kernel_rfl) (by kernel_rfl) (by kernel_rfl) (fun _ _ _ h => h) (by rfl) (fun W _ => by go_simp) hHeld ?_
      simp only [Act.put, List.setIfInBounds_toArray, List.set_cons_zero, List.set_cons_succ]
      refine held_take (i := 15) (d := 72) (v := .slice AL n5 c11) rfl rfl (by kernel_rfl) (by kernel_rfl) (by kernel_rfl) (fun _ _ _ h => h) (by rfl) (fun W _ => by have q := hsl W; go_simp) hHeld ?_
      simp only [Act.put, List.setIfInBounds_toArray, List.set_cons_zero, List.set_cons_succ]
      refine held_take (i := 16) (d := 73) (v := .string S1) rfl rfl (by kernel_rfl) (by kernel_rfl) (by kernel_rfl) (fun _ _ _ h => h) (by rfl) (fun W hW => by have q := HTL.out W hW; go_simp) hHeld ?_
      simp only [Act.put, List.setIfInBounds_toArray, List.set_cons_zero, List.set_cons_succ]
      refine held_take (i := 17) (d := 74) (v := .slice A5 n5 c5) rfl rfl (by kernel_rfl) (by kernel_rfl) (by kernel_rfl) (fun _ _ _ h => h) (by rfl) (fun W _ => run_move_is (.tmp 9) rfl rfl W) hHeld ?_
      simp only [Act.put, List.setIfInBounds_toArray, List.set_cons_zero, List.set_cons_succ]
      refine held_take (i := 18) (d := 75) (v := .string S1) rfl rfl (by kernel_rfl) (by kernel_rfl) (by kernel_rfl) (fun _ _ _ h => h) (by rfl) (fun W hW => by have q := HTW.out W hW; go_simp) hHeld ?_
      simp only [Act.put, List.setIfInBounds_toArray, List.set_cons_zero, List.set_cons_succ]
      refine held_take (i := 19) (d := 76) (v := .bool true) rfl rfl (by kernel_rfl) (by kernel_rfl) (by kernel_rfl) (fun _ _ _ h => h) (by rfl) (fun W _ => by go_simp) hHeld ?_
      simp only [Act.put, List.setIfInBounds_toArray, List.set_cons_zero, List.set_cons_succ]
      refine held_take (i := 20) (d := 77) (v := .bool true) rfl rfl (by kernel_rfl) (by kernel_rfl) (by kernel_rfl) (fun _ _ _ h => h) (by rfl) (fun W _ => by go_simp) hHeld ?_
      simp only [Act.put, List.setIfInBounds_toArray, List.set_cons_zero, List.set_cons_succ]
      refine held_take (i := 21) (d := 78) (v := .bool true) rfl rfl (by kernel_rfl) (by kernel_rfl) (by kernel_rfl) (fun _ _ _ h => h) (by rfl) (fun W _ => run_move_is (.tmp 77) rfl rfl W) hHeld ?_
      simp only [Act.put, List.setIfInBounds_toArray, List.set_cons_zero, List.set_cons_succ]
      refine held_take (i := 22) (d := 79) (v := .slice A11 (n5 + nr) c11) rfl rfl (by kernel_rfl) (by kernel_rfl) (by kernel_rfl) (fun _ _ _ h => h) (by rfl) (fun W _ => run_move_is (.tmp 12) rfl rfl W) hHeld ?_
      simp only [Act.put, List.setIfInBounds_toArray, List.set_cons_zero, List.set_cons_succ]
      refine held_take (i := 23) (d := 80) (v := .slice A5 n5 c5) rfl rfl (by kernel_rfl) (by kernel_rfl) (by kernel_rfl) (fun _ _ _ h => h) (by rfl) (fun W _ => run_move_is (.tmp 9) rfl rfl W) hHeld ?_
      simp only [Act.put, List.setIfInBounds_toArray, List.set_cons_zero, List.set_cons_succ]
      refine held_take (i := 24) (d := 81) (v := .int .i64 (n5 : Int)) rfl rfl (by kernel_rfl) (by kernel_rfl) (by kernel_rfl) (fun _ _ _ h => h) (by rfl) (fun W _ => by go_simp) hHeld ?_
      simp only [Act.put, List.setIfInBounds_toArray, List.set_cons_zero, List.set_cons_succ]
      refine held_take (i := 25) (d := 82) (v := .slice AR nr (c11 - n5)) rfl rfl (by kernel_rfl) (by kernel_rfl) (by kernel_rfl) (fun _ _ _ h => h) (by rfl) (fun W _ => by have q := hsr W; go_simp) hHeld ?_
      simp only [Act.put, List.setIfInBounds_toArray, List.set_cons_zero, List.set_cons_succ]
      refine held_take (i := 26) (d := 83) (v := .string S2) rfl rfl (by kernel_rfl) (by kernel_rfl) (by kernel_rfl) (fun _ _ _ h => h) (by rfl) (fun W hW => by have q := HTR.out W hW; go_simp) hHeld ?_
      simp only [Act.put, List.setIfInBounds_toArray, List.set_cons_zero, List.set_cons_succ]
      refine held_take (i := 27) (d := 84) (v := .slice A16 nr c16) rfl rfl (by kernel_rfl) (by kernel_rfl) (by kernel_rfl) (fun _ _ _ h => h) (by rfl) (fun W _ => run_move_is (.tmp 15) rfl rfl W) hHeld ?_
      simp only [Act.put, List.setIfInBounds_toArray, List.set_cons_zero, List.set_cons_succ]
      refine held_take (i := 28) (d := 85) (v := .string S2) rfl rfl (by kernel_rfl) (by kernel_rfl) (by kernel_rfl) (fun _ _ _ h => h) (by rfl) (fun W hW => by have q := HTX.out W hW; go_simp) hHeld ?_
      simp only [Act.put, List.setIfInBounds_toArray, List.set_cons_zero, List.set_cons_succ]
      refine held_take (i := 29) (d := 86) (v := .bool true) rfl rfl (by kernel_rfl) (by kernel_rfl) (by kernel_rfl) (fun _ _ _ h => h) (by rfl) (fun W _ => by go_simp) hHeld ?_
      simp only [Act.put, List.setIfInBounds_toArray, List.set_cons_zero, List.set_cons_succ]
      refine held_take (i := 30) (d := 87) (v := .bool true) rfl rfl (by kernel_rfl) (by kernel_rfl) (by kernel_rfl) (fun _ _ _ h => h) (by rfl) (fun W _ => by go_simp) hHeld ?_
      simp only [Act.put, List.setIfInBounds_toArray, List.set_cons_zero, List.set_cons_succ]
      refine held_take (i := 31) (d := 88) (v := .bool true) rfl rfl (by kernel_rfl) (by kernel_rfl) (by kernel_rfl) (fun _ _ _ h => h) (by rfl) (fun W _ => run_move_is (.tmp 87) rfl rfl W) hHeld ?_
      simp only [Act.put, List.setIfInBounds_toArray, List.set_cons_zero, List.set_cons_succ]
      refine held_take (i := 32) (d := 89) (v := .pointer (some ⟨p, 0, none⟩)) rfl rfl (by kernel_rfl) (by kernel_rfl) (by kernel_rfl) (fun _ _ _ h => h) (by rfl) (fun W _ => run_move_is (.tmp 5) rfl rfl W) hHeld ?_
      simp only [Act.put, List.setIfInBounds_toArray, List.set_cons_zero, List.set_cons_succ]
      refine held_take (i := 34) (d := 91) (v := .int .u64 dl) rfl rfl (by kernel_rfl) (by kernel_rfl) (by kernel_rfl) (fun _ _ _ h => h) (by rfl) (fun W _ => run_move_is (.tmp 10) rfl rfl W) hHeld ?_
      simp only [Act.put, List.setIfInBounds_toArray, List.set_cons_zero, List.set_cons_succ]
      refine held_take (i := 35) (d := 92) (v := .slice A12 n12 c12) rfl rfl (by kernel_rfl) (by kernel_rfl) (by kernel_rfl) (fun _ _ _ h => h) (by rfl) (fun W _ => run_move_is (.tmp 13) rfl rfl W) hHeld ?_
      simp only [Act.put, List.setIfInBounds_toArray, List.set_cons_zero, List.set_cons_succ]
      have HCL := Lib.hid (HLG.out w17 HD1.out)
      refine held_one (i := 33) (by kernel_rfl) ?_
      refine held_callX (d := 90) rfl rfl (by rfl) rfl (by kernel_rfl) Try.func26 (by kernel_rfl) HCL.out ?_
      rintro e w18 ⟨rfl, hb⟩
      have HD2 := Lib.hid (Below.then HD1.out hb (Nat.le_refl _))
      clear hb
      refine ⟨_, rfl, ?_⟩
      clear HCL hHeld
      have hHeld := HD2.out
      refine ⟨hHeld, ?_⟩
      simp only [Act.put, List.setIfInBounds_toArray, List.set_cons_zero, List.set_cons_succ]
      have HCL := Lib.hid (HCW.out w18 HD2.out)
      refine held_one (i := 36) (by kernel_rfl) ?_
      refine held_callX (d := 93) rfl rfl (by rfl) rfl (by kernel_rfl) Try.func30 (by kernel_rfl) HCL.out ?_
      rintro e w19 ⟨rfl, hb⟩
      have HD3 := Lib.hid (Below.then HD2.out hb (Nat.le_refl _))
      clear hb
      refine ⟨_, rfl, ?_⟩
      clear HCL hHeld
      have hHeld := HD3.out
      refine ⟨hHeld, ?_⟩
      simp only [Act.put, List.setIfInBounds_toArray, List.set_cons_zero, List.set_cons_succ]
      refine held_take (i := 37) (d := 94) (v := .bool true) rfl rfl (by kernel_rfl) (by kernel_rfl) (by kernel_rfl) (fun _ _ _ h => h) (by rfl) (fun W _ => by go_simp) hHeld ?_
      simp only [Act.put, List.setIfInBounds_toArray, List.set_cons_zero, List.set_cons_succ]
      refine held_take (i := 38) (d := 95) (v := .bool true) rfl rfl (by kernel_rfl) (by kernel_rfl) (by kernel_rfl) (fun _ _ _ h => h) (by rfl) (fun W _ => by go_simp) hHeld ?_
      simp only [Act.put, List.setIfInBounds_toArray, List.set_cons_zero, List.set_cons_succ]
      refine held_take (i := 39) (d := 4) (v := .bool true) rfl rfl (by kernel_rfl) (by kernel_rfl) (by kernel_rfl) (fun _ _ _ h => h) (by rfl) (fun W _ => by go_simp) hHeld ?_
      simp only [Act.put, List.setIfInBounds_toArray, List.set_cons_zero, List.set_cons_succ]
      refine wpAnyH_done (by kernel_rfl) ?_ _
      clear hHeld
      have HBF := Lib.hid (HWB.out.trans (HD3.out.mono HWB.out.size))
      clear HD0 HD1 HD2 HD3 HTL HTW HTR HTX HLG HCW HWB
      go_wp2
      go_ret
      exact ⟨rfl, HBF.out⟩
end
end Go.Proofs.Ytlgoiccekgjhnaa
