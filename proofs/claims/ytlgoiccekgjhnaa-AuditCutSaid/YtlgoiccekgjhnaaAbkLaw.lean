/-
  The law AuditBack as a walk over any log that keeps the bundle. Conditions: the bundle.
-/
import Derived.Test.YtlgoiccekgjhnaaAgc
namespace Go.Proofs.Ytlgoiccekgjhnaa
open Go.ChangeShapes Go.WideShapes Go.ChangeAt Go.RowKit
set_option linter.unusedVariables false
set_option linter.unusedSimpArgs false
set_option maxHeartbeats 4000000
set_option maxRecDepth 100000

/-- The maker's events out of an argument: a row of new memory. -/
theorem evs_made {w0 w : World} {b most : Nat} {L : List Int} (ht : TS w b L 0) (hge : w0.heap.size ≤ b) (hb : Below w0.heap.size w0 w) (hf : Fit .u16 L) (hL : L.length ≤ 900) (hm : most ≤ 900) :
    Calls Try.prog 20 #[.pointer (some ⟨b, 0, none⟩), .int .i64 (most : Int)] w fun e w' =>
      ∃ v l, e = .returned v ∧ Goods l ∧ l.length ≤ most ∧ OwnK ev5 27 w' w0.heap.size v l ∧ Below w0.heap.size w0 w' :=
  (events_any b 0 most L w ht hf hL (by omega) hm).mono fun e w' hx => by
    obtain ⟨v, l, j, rfl, h1, h2, h3, h4, h5⟩ := hx
    exact ⟨v, l, rfl, h1.1, h2, h3.down hb.size, hb.trans (h5.below hge hb.size)⟩
theorem evs_made3 {w0 w : World} {b most : Nat} {L : List Int} (ht : TS w b L 0) (hge : w0.heap.size ≤ b) (hb : Below w0.heap.size w0 w) (hf : Fit .u16 L) (hL : L.length ≤ 900) (hm : most ≤ 900) :
    Calls Try.prog 20 #[.pointer (some ⟨b, 0, none⟩), .int .i64 (most : Int)] w fun e w' =>
      ∃ v l, e = .returned v ∧ (Goods l ∧ Low3 l) ∧ l.length ≤ most ∧ OwnK ev5 27 w' w0.heap.size v l ∧ Below w0.heap.size w0 w' :=
  (events_any b 0 most L w ht hf hL (by omega) hm).mono fun e w' hx => by
    obtain ⟨v, l, j, rfl, h1, h2, h3, h4, h5⟩ := hx
    exact ⟨v, l, rfl, h1, h2, h3.down hb.size, hb.trans (h5.below hge hb.size)⟩
section
variable {Lg : LgP} (C : AuC Lg)
include C
theorem auditBack_all (a0 : Int) (a1 : Option Addr) (len1 cap1 : Nat) (z1 : List Int) (w : World) (w0 : (Lit.int .u8 a0).wf = true) (w1 : IsRow .u16 w a1 len1 cap1 z1) :
    Calls Try.prog 6 #[.int .u8 a0, .slice a1 len1 cap1] w fun e w' => e = .returned (.bool true) ∧ Below w.heap.size w w' := by
  obtain ⟨ie, hie, hz0, hz1, hz2⟩ := info_parts infoE
  obtain ⟨hrow, hfit⟩ := w1.row
  generalize z1.take len1 = T0 at hrow hfit
  have HOF := Lib.hid (fun W (hW : Below w.heap.size w W) => of_any a1 len1 cap1 T0 160 W ((hrow.below hW).more hW.size) (by omega))
  have HFT := Lib.hid (hfit.take 160)
  have htl : (T0.take 160).length ≤ 900 := by rw [List.length_take]; omega
  generalize T0.take 160 = T at *
  obtain ⟨b0, b1⟩ := byte_bd w0
  have s0 : 0 ≤ a0 % 12 := Int.emod_nonneg _ (by omega)
  have s1 : a0 % 12 < 12 := Int.emod_lt_of_pos _ (by omega)
  generalize hcap : a0 % 12 = cap at *
  have HN := Lib.hid (C.newOk cap w (fun _ => 0) 1 s0 (by omega))
  have HTL := Lib.hid htl
  clear w0 w1 hrow hfit htl
  go_enter Try.func6, Try.ntmps6
  go_wp2_with fail
  rw [hcap]
  clear hcap
  refine HN.out.mono ?_
  rintro e w1 ⟨p, rfl, hp, hL, hb⟩
  have h1 : Al Lg w (rc (fun _ => 0) w.heap.size 1) p cap [] [] w1 := ⟨fun g hg => rc_old hg, hb, hL⟩
  have HA1 := Lib.hid h1
  have HOC := Lib.hid (HOF.out w1 hb)
  clear HN hp hL hb h1 HOF
  go_wp2_with fail
  refine HOC.out.mono ?_
  rintro e w2 ⟨b, rfl, hts2, hge, hb2⟩
  have HEV := Lib.hid (evs_made (w0 := w1) (most := 24) hts2 hge hb2 HFT.out HTL.out (by omega))
  clear hts2 hb2 HOC hge
  go_wp2_with fail
  refine HEV.out.mono ?_
  rintro e w3 ⟨v3, l, rfl, hgl, hll, hov, hb3⟩
  obtain ⟨c3, hA3, hold3, hnew3⟩ := Al.go C HA1.out hb3
  obtain ⟨A, n, cp, rfl, hk3⟩ := hov.shape
  have hcapn := hk3.cap
  have hsmn := hk3.small
  have hlen := hk3.len
  unfold maxLen at hsmn
  have HST : Hid (∃ c L, Al Lg w c p cap L [] w3 ∧ OwD 0 w.heap.size ev5 27 w3 c (.slice A n cp) l ∧ OwD 0 w3.heap.size ev5 27 w3 c (.slice none 0 0) L ∧ Goods L ∧ L.length ≤ 0 ∧ w3.heap.size ≤ w3.heap.size) :=
    Lib.hid ⟨c3, [], hA3, ⟨hov.down (by have := HA1.out.2.1.size; omega), fun g hg => hnew3 g (hov.ge hg).1⟩, OwD.nil, Goods.nil, Nat.le_refl _, Nat.le_refl _⟩
  have HBE : Hid (∀ g, (Value.slice A n cp).ownBlock = some g → g < w3.heap.size) := Lib.hid (fun g hg => (hov.ge hg).2)
  have HB3 : Hid (w.heap.size ≤ w3.heap.size) := Lib.hid hA3.2.1.size
  have HGL := Lib.hid hgl
  clear HEV hgl hov hb3 hA3 hold3 hnew3 HA1 hk3
  go_wp2
  go_loopw [7, 25] (fun wv kv wr => ∃ i : Nat, i ≤ n ∧ kv = .int .i64 i ∧ ∃ A2 n2 cp2, wv = .slice A2 n2 cp2 ∧ Hid (∃ c L, Al Lg w c p cap L [] wr ∧ OwD 0 w.heap.size ev5 27 wr c (.slice A n cp) l ∧ OwD 0 w3.heap.size ev5 27 wr c (.slice A2 n2 cp2) L ∧ Goods L ∧ L.length ≤ i ∧ w3.heap.size ≤ wr.heap.size)) (fun _ kv _ => n - (intOf kv).toNat)
  case atStart => exact ⟨0, Nat.zero_le _, rfl, none, 0, 0, rfl, HST⟩
  case round =>
    obtain ⟨i, hi, rfl, A2, n2, cp2, rfl, hh⟩ := hrel
    obtain ⟨c, L, hA, hE, hW, hG, hLl, hz3⟩ := hh.out
    clear HST
    by_cases hin : i < n
    · have hi1 : (i : Int) < (n : Int) := by omega
      obtain ⟨bb, ob, x, hx, rfl, hbb, g0, g1, g2, g3, g4⟩ := hE.kws.ev_ hin
      have hgx := HGL.out x (List.mem_of_getElem? hx)
      obtain ⟨xp, xo, xh, xa, xe⟩ := x
      simp only at g0 g1 g2 g3 g4
      have hb4 : Below wr.heap.size wr (wr.alloc (.cells #[.int .i64 xp, .int .i64 xo, .int .u64 xh, .int .u64 xa, .int .i64 xe] 27)) := (Below.refl _ _).alloc (Nat.le_refl _) _
      obtain ⟨c4, hA4, hold4, hnew4⟩ := Al.go C hA hb4
      have HE4 := Lib.hid (hE.go hb4 hold4)
      have HW4 := Lib.hid (hW.go hb4 hold4)
      have hx4 := EvB.new (w := wr) (p := xp) (o := xo) (h := xh) (a := xa) (e := xe)
      have HX4 := Lib.hid hx4
      have HZ4 := Lib.hid (hnew4 wr.heap.size (Nat.le_refl _))
      have HZR : Hid (w3.heap.size ≤ (wr.alloc (.cells #[.int .i64 xp, .int .i64 xo, .int .u64 xh, .int .u64 xa, .int .i64 xe] 27)).heap.size) := Lib.hid (Nat.le_trans hz3 hb4.size)
      obtain ⟨q0, q1, q2, q3, q4⟩ := hx4.cells
      have HAP := Lib.hid (Al.append C ⟨xp, xo, xh, xa, xe⟩ hA4 (by omega) hgx.2)
      have HGX := Lib.hid hgx
      have HG := Lib.hid hG
      have HOK := Lib.hid (fun h0 => apL_ok (cap := cap) (l := L) (x := ⟨xp, xo, xh, xa, xe⟩) h0)
      have HNO := Lib.hid (fun h0 => apL_no (cap := cap) (l := L) (x := ⟨xp, xo, xh, xa, xe⟩) h0)
      generalize apE cap L ⟨xp, xo, xh, xa, xe⟩ = E at *
      generalize apL cap L ⟨xp, xo, xh, xa, xe⟩ = LL at *
      clear hh hA hE hW hG hx hbb hgx hb4 hA4 hold4 hnew4 hx4
      go_wp2_with fail
      generalize wr.alloc (.cells #[.int .i64 xp, .int .i64 xo, .int .u64 xh, .int .u64 xa, .int .i64 xe] 27) = w4 at *
      generalize wr.heap.size = tr at *
      refine HAP.out.mono ?_
      rintro e w5 ⟨rfl, c5, hA5, hk5, hold5⟩
      have hx5 : EvB w5 tr xp xo xh xa xe := (hk5.block tr HX4.out.lt (by rw [HZ4.out]; omega)).trans HX4.out
      have hE5 := HE4.out.kept hk5 (by omega) hold5
      have hW5 := HW4.out.kept hk5 (by omega) hold5
      have HE5 := Lib.hid hE5
      have HZ5 : Hid (w3.heap.size ≤ w5.heap.size) := Lib.hid (Nat.le_trans HZR.out hk5.size)
      clear HAP HE4 HW4 HX4 HZ4 q0 q1 q2 q3 q4 g0 g1 g2 g3 g4 hE5 hk5 hold5
      by_cases hz : E = 0
      · subst hz
        have hLL := HOK.out rfl
        subst hLL
        obtain ⟨q0, q1, q2, q3, q4⟩ := hx5.cells
        have hb6 : Below w5.heap.size w5 (w5.alloc (.cells #[.int .i64 xp, .int .i64 xo, .int .u64 xh, .int .u64 xa, .int .i64 xe] 27)) := (Below.refl _ _).alloc (Nat.le_refl _) _
        obtain ⟨c6, hA6, hold6, hnew6⟩ := Al.go C hA5 hb6
        have HA6 := Lib.hid hA6
        have HE6 := Lib.hid (HE5.out.go hb6 hold6)
        have HW6 := Lib.hid (hW5.go hb6 hold6)
        have HN6 := Lib.hid (Kws.one_ w5 ⟨xp, xo, xh, xa, xe⟩)
        have HLN : Hid (L.length = n2) := Lib.hid hW5.kws.len
        have HZ6 : Hid (w3.heap.size ≤ (w5.alloc (.cells #[.int .i64 xp, .int .i64 xo, .int .u64 xh, .int .u64 xa, .int .i64 xe] 27)).heap.size) := Lib.hid (Nat.le_trans HZ5.out hb6.size)
        clear HOK HNO hx5 hb6 hA6 hold6 hnew6 HE5 hA5 hW5
        go_wp2_with (at_builtin; go_must (refine wpList_appK _ rfl (.tmp 33) (.tmp 35) 35 rfl Try.underlying35 hie hz0 rfl hz1 (by omega) HW6.out.1 rfl HN6.out rfl (by have := HLN.out; omega) HZ6.out ?_); intro v7 w7 ho7 hb7 hg7)
        obtain ⟨A7, n7, cp7, rfl, hk7⟩ := ho7.shape
        have HF : Hid (∃ c L', Al Lg w c p cap L' [] w7 ∧ OwD 0 w.heap.size ev5 27 w7 c (.slice (some ⟨bb, ob, none⟩) n cp) l ∧ OwD 0 w3.heap.size ev5 27 w7 c (.slice A7 n7 cp7) L' ∧ Goods L' ∧ L'.length ≤ i + 1 ∧ w3.heap.size ≤ w7.heap.size) := Lib.hid (by
          obtain ⟨hw7, hkk⟩ := HW6.out.app ho7 hg7.1 hg7.2
          have hco : ∀ g, g < (w5.alloc (.cells #[.int .i64 xp, .int .i64 xo, .int .u64 xh, .int .u64 xa, .int .i64 xe] 27)).heap.size → cn c6 (w5.alloc (.cells #[.int .i64 xp, .int .i64 xo, .int .u64 xh, .int .u64 xa, .int .i64 xe] 27)).heap.size 0 (.slice A7 n7 cp7) g = c6 g := fun g hg => cn_old hg
          refine ⟨_, L ++ [⟨xp, xo, xh, xa, xe⟩], Al.own C HA6.out hg7.1 (fun g e => ⟨HW6.out.2 g e, Nat.le_trans HB3.out (HW6.out.1.ge e).1⟩) hco, ?_, hw7, HG.out.app (Goods.one HGX.out), by simp; omega, Nat.le_trans HZ6.out hkk.size⟩
          refine ⟨OwnK.kept HE6.out.1 hg7.1 ?_, fun g hg => by rw [hco g (HE6.out.1.ge hg).2]; exact HE6.out.2 g hg⟩
          cases hob : (Value.slice (some ⟨bb, ob, none⟩) n cp).ownBlock with
          | none => exact .inl rfl
          | some g =>
            refine .inr fun e => ?_
            have h1 := HBE.out g hob
            have h2 := (HW6.out.1.ge e.symm).1
            omega)
        clear ho7 hb7 hg7 hk7 HA6 HE6 HW6 HN6 q0 q1 q2 q3 q4
        go_wp2
        go_roundw
        case rel => exact ⟨i + 1, by omega, by go_num, A7, n7, cp7, rfl, HF⟩
        case measure => simp [intOf]; omega
      · have hzb : (E == 0) = false := by simpa using hz
        have hLL := HNO.out hz
        subst hLL
        have HF : Hid (∃ c L', Al Lg w c p cap L' [] w5 ∧ OwD 0 w.heap.size ev5 27 w5 c (.slice (some ⟨bb, ob, none⟩) n cp) l ∧ OwD 0 w3.heap.size ev5 27 w5 c (.slice A2 n2 cp2) L' ∧ Goods L' ∧ L'.length ≤ i + 1 ∧ w3.heap.size ≤ w5.heap.size) := Lib.hid ⟨c5, _, hA5, HE5.out, hW5, HG.out, by omega, HZ5.out⟩
        clear hA5 hW5 HE5 hx5 HOK HNO HG HZ5
        go_wp2
        go_roundw
        case rel => exact ⟨i + 1, by omega, by go_num, A2, n2, cp2, rfl, HF⟩
        case measure => simp [intOf]; omega
    · obtain rfl : i = n := by omega
      have hd : ¬ (i : Int) < (i : Int) := by omega
      obtain ⟨h1, h2, h3⟩ := hA
      have HBY := Lib.hid (C.bytes h3 (by omega) hG)
      have HLE := Lib.hid (fun W c' (hW' : Lg W c' 1 p cap L []) => C.len hW' (by omega))
      have HLG := Lib.hid (fun W (hb : Below wr.heap.size wr W) => C.kept h3 (j := 0) (c' := rc c wr.heap.size 0) (Kept.ofBelow hb) (by omega) (fun g hg => rc_old hg))
      have HBW := Lib.hid h2
      have HWK := Lib.hid hW.kws
      have hwl := hW.kws.len
      have HLB := Lib.hid (lg_back hG)
      have hlbb := (lgB_len (d := start) hG).1
      unfold Made at HBY
      clear hh hE hW hG h1 h2 h3 HBE
      go_wp2_with fail
      refine HBY.out.mono ?_
      rintro e w5 ⟨v5, rfl, ho5, hb5⟩
      obtain ⟨A5, n5, c5, rfl, hr5⟩ := ho5.shape
      have HDC := Lib.hid (C.decode A5 n5 c5 _ w5 hr5 lgB_small (by have := hr5.len; omega))
      unfold DlE at HDC
      rw [HLB.out.1, HLB.out.2] at HDC
      have HB5 := Lib.hid hb5
      clear ho5 hr5 hb5 HBY
      go_wp2_with fail
      refine HDC.out.mono ?_
      rintro e w6 ⟨v6, rfl, ho6, hb6⟩
      obtain ⟨A6, n6, c6, rfl, hk6⟩ := ho6.shape
      have HK6 := Lib.hid hk6
      have HB6 := Lib.hid (Below.then HB5.out hb6 (Nat.le_refl _))
      clear ho6 hk6 hb6 HDC HB5
      go_wp2_with fail
      refine (aw17_any C w6).mono ?_
      rintro e w7 ⟨rfl, hb7⟩
      have HB7 := Lib.hid (Below.then HB6.out hb7 (Nat.le_refl _))
      have HSM := Lib.hid (sameEv_any A6 n6 c6 A2 n2 cp2 L w7 (HK6.out.go hb7) (HWK.out.go HB7.out))
      clear hb7 HB6 HK6
      go_wp2_with fail
      refine HSM.out.mono ?_
      rintro e w8 ⟨rfl, hb8⟩
      have HB8 := Lib.hid (Below.then HB7.out hb8 (Nat.le_refl _))
      have HLN := Lib.hid (HLE.out w8 _ (HLG.out w8 HB8.out))
      rw [hwl] at HLN
      clear hb8 HB7 HSM
      go_wp2_with fail
      refine HLN.out.mono ?_
      rintro e w9 ⟨rfl, hb9⟩
      have HF := Lib.hid (HBW.out.trans ((Below.then HB8.out hb9 (Nat.le_refl _)).mono HBW.out.size))
      clear hb9 HLN HB8
      go_wp2
      go_ret
      exact ⟨rfl, HF.out⟩
end
end Go.Proofs.Ytlgoiccekgjhnaa
