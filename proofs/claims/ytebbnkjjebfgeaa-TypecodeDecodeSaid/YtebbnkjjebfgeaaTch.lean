/-
  Contract of the reference's DecodeType. Conditions: the bytes are bytes, at most a million.
-/
import Derived.Test.YtebbnkjjebfgeaaTcg
namespace Go.Proofs.Ytebbnkjjebfgeaa
open Go.ChangeShapes Go.WideShapes Go.RowKit
set_option linter.unusedVariables false
set_option maxHeartbeats 4000000
set_option maxRecDepth 100000

theorem decodeR_any (A : Option Addr) (n c : Nat) (b : List Int) (w : World) (h : Bts w w.heap.size A n c b) (hs : Small b) (hn : n ≤ 1000000) :
    Calls Try.prog 22 #[.slice A n c] w (DcE w b) := by
  have hb0 : Below w.heap.size w (w.alloc (.cells #[.int .i64 0, .slice none 0 0] 24)) := (Below.refl _ _).alloc (Nat.le_refl _) _
  have HT1 := Lib.hid (TyB.new (w := w) (n := 0) (A := none) (m := 0) (c := 0))
  have HB1 := Lib.hid hb0
  have HSM := Lib.hid (fun p W (hW : Below w.heap.size w W) (hp : p ≤ n) => smallR_any A n c p b W ((h.below hW).more hW.size) hs hn hp)
  have HL := Lib.hid h.len
  have HLO := Lib.hid (fun h0 => dc_low hs (h0 : dcR b = 0))
  have HRB := Lib.hid (fun p hp h0 => rn_bd hs (p := p) hp h0)
  have HPB := Lib.hid (fun p hp h0 => rp_bd hs (p := p) hp h0)
  have HDR : Hid (dcR b = if rpE b 0 = 0 then (if 32 < rpY b 0 then 4 else rfE b (rpY b 0).toNat (rpA b 0)) else rpE b 0) := Lib.hid rfl
  have HPE : Hid (∀ p, rpE b p = if rnE b p = 0 then rnE b (rnA b p) else rnE b p) := Lib.hid (fun _ => rfl)
  have HDD : Hid (dcE b = if dcR b = 0 then chk (rpX b 0) (dcF b) else dcR b) := Lib.hid rfl
  have HFF : Hid (∀ (W : World) (e : Int), dcE b = e → e ≠ 0 → Below w.heap.size w W → DcE w b (.returned (.tuple #[.agg #[.int .i64 0, .slice none 0 0], .int .i64 0, .int .i64 e])) W) := Lib.hid (fun W e h1 hne h2 => by
    obtain ⟨k1, k2, k3⟩ := dc_err (b := b) h1 hne
    exact ⟨none, 0, 0, by rw [k1, k3, h1], by rw [k2]; exact Exs.none_, h2⟩)
  have HGG : Hid (∀ (W : World) (A : Option Addr) (m c : Nat), dcE b = 0 → Exs W W.heap.size A m c (dcF b) → Below w.heap.size w W → DcE w b (.returned (.tuple #[.agg #[.int .i64 (rpX b 0), .slice A m c], .int .i64 (rfA b (rpY b 0).toNat (rpA b 0)), .int .i64 0])) W) := Lib.hid (fun W A m c h1 h2 h3 => by
    obtain ⟨_, _, k1, k2, k3⟩ := dc_0 h1
    exact ⟨A, m, c, by rw [k1, k3, h1], by rw [k2]; exact h2, h3⟩)
  have HSA : Hid (∀ p, rnE b p = 0 → smX b p = rnX b p ∧ smA b p = rnA b p) := Lib.hid (fun p h0 => by unfold smX smA; rw [if_pos h0, if_pos h0]; exact ⟨rfl, rfl⟩)
  have H1 := Lib.hid (HSM.out 0 _ hb0 (Nat.zero_le _))
  unfold SmE at H1
  clear h hb0 hs
  go_enter Try.func22, Try.ntmps22
  go_wp2_with fail
  refine H1.out.mono ?_
  rintro e w' ⟨rfl, rfl⟩
  have hw1 : w.heap.size < (w.alloc (.cells #[.int .i64 0, .slice none 0 0] 24)).heap.size := HT1.out.lt
  generalize w.alloc (.cells #[.int .i64 0, .slice none 0 0] 24) = w1 at *
  have hwb : w.heap.size ≤ w.heap.size := Nat.le_refl _
  generalize htb : w.heap.size = tb at *
  have htl : tb ≤ w.heap.size := by omega
  clear htb
  have q0 := HT1.out.cell0
  have q1 := HT1.out.cell1
  have q2 := HT1.out.fr 0
  have q3 := HT1.out.fr 1
  have hs3 := HT1.out.set (n' := 0) (A' := none) (m' := 0) (c' := 0)
  have k0 := hs3.cell0
  have k1 := hs3.cell1
  have HOF := Lib.hid (((HB1.out.setCell (p := ⟨tb, 0, none⟩) (Nat.le_refl _) (.int .i64 0)).setCell (p := ⟨tb, 1, none⟩) (Nat.le_refl _) (.slice none 0 0)))
  clear hs3
  by_cases hz : rnE b 0 = 0
  · obtain ⟨x0, x1, a0, a1, _⟩ := HRB.out 0 (Nat.zero_le _) hz
    have H2 := Lib.hid (HSM.out (rnA b 0) w1 HB1.out (by rw [← HL.out]; exact a1))
    unfold SmE at H2
    rw [(HSA.out 0 hz).1, (HSA.out 0 hz).2, hz]
    have HZ := Lib.hid hz
    clear hz
    have HXN : Hid (rpX b 0 = rnX b 0) := Lib.hid rfl
    have HYN : Hid (rpY b 0 = rnX b (rnA b 0)) := Lib.hid rfl
    have HAN : Hid (rpA b 0 = rnA b (rnA b 0)) := Lib.hid rfl
    have HE0 : Hid (rpE b 0 = rnE b (rnA b 0)) := Lib.hid (by rw [HPE.out, if_pos HZ.out])
    generalize rnA b 0 = p1 at *
    generalize rnX b 0 = n0 at *
    go_wp2_with fail
    refine H2.out.mono ?_
    rintro e w' ⟨rfl, rfl⟩
    by_cases hz : rnE b p1 = 0
    · obtain ⟨y0, y1, a2, a3, _⟩ := HRB.out p1 a1 hz
      have HPZ : Hid (rpE b 0 = 0) := Lib.hid (by rw [HE0.out, hz])
      rw [(HSA.out p1 hz).1, (HSA.out p1 hz).2, hz]
      clear H1 H2 hz HE0
      generalize rnA b p1 = p2 at *
      generalize rnX b p1 = yy at *
      rw [HYN.out, HAN.out, if_pos HPZ.out] at HDR
      rw [HXN.out] at HDD HLO HGG
      rw [HYN.out, HAN.out] at HGG
      by_cases hbig : 32 < yy
      · have HF := Lib.hid (HFF.out _ 4 (by rw [HDD.out, HDR.out, if_pos hbig]; rfl) (by decide) HOF.out)
        clear HLO HRB HPB HDR HPE HDD HFF HGG HSA HSM HPZ HXN HYN HAN HZ
        go_wp2
        exact bodyPost_ret (v := .tuple #[.agg #[.int .i64 0, .slice none 0 0], .int .i64 0, .int .i64 4]) (by simp [results, Try.results22, go_sem, k0, k1]) rfl HF.out
      · obtain ⟨M, rfl⟩ := Int.eq_ofNat_of_zero_le y0
        have HE : Hid (dcR b = rfE b M p2) := Lib.hid (by rw [HDR.out, if_neg hbig, Int.toNat_natCast])
        have HFD : Hid (dcF b = rfL b M p2) := Lib.hid (by unfold dcF; rw [HYN.out, HAN.out, Int.toNat_natCast])
        rw [Int.toNat_natCast] at HGG
        have hM32 : M ≤ 32 := by omega
        have hb3 : Below w1.heap.size w1 (w1.alloc (.cells #[.int .i64 n0, .slice none 0 0] 24)) := (Below.refl _ _).alloc (Nat.le_refl _) _
        have HX3 := Lib.hid (TyB.new (w := w1) (n := n0) (A := none) (m := 0) (c := 0))
        have HR3 := Lib.hid (HT1.out.go hb3)
        have HB3 := Lib.hid (Below.then HB1.out hb3 htl)
        clear hb3 HT1 HB1 HDR HXN HYN HAN HPZ y0 y1 hbig q0 q1 q2 q3 k0 k1 HOF HZ
        go_wp2
        generalize w1.alloc (.cells #[.int .i64 n0, .slice none 0 0] 24) = w3 at *
        generalize htx : w1.heap.size = tx at *
        have htx3 : tx < w3.heap.size := HX3.out.lt
        clear htx
        obtain ⟨i0, hi0, hz0, hz1, hz2⟩ := info_parts infoFd
        have HI := Lib.hid hi0
        have HZ := Lib.hid hz0
        clear hi0 hz0
        go_loopw [6, 10] (fun pv kv wr => ∃ (j : Nat), j ≤ M ∧ kv = .int .i64 j ∧ pv = .int .i64 (rfA b j p2) ∧ Hid (∃ A m c, TyB wr tx n0 A m c ∧ TyB wr tb 0 none 0 0 ∧ OwnE 48 wr (tx + 1) (.slice A m c) (rfL b j p2) ∧ Below tb w wr ∧ rfE b j p2 = 0 ∧ rfA b j p2 ≤ b.length)) (fun _ kv _ => M - (intOf kv).toNat)
        case atStart => exact ⟨0, by omega, rfl, rfl, Lib.hid ⟨none, 0, 0, HX3.out, HR3.out, OwnE.nil _ _ _, HB3.out, rfl, a3⟩⟩
        case round =>
          obtain ⟨j, hj, rfl, rfl, hh⟩ := hrel
          obtain ⟨A2, m2, c2, hxr, hrr, hor, hbr, hre, hle⟩ := hh.out
          clear HX3 HR3 HB3
          by_cases hjm : j < M
          · have hj1 : (j : Int) < (M : Int) := by omega
            have HLL : Hid ((rfL b j p2).length = j) := Lib.hid rfL_len
            have HNX := Lib.hid (fun h' => rf_next hre h')
            have HBB := Lib.hid (fun h' => rf_bad hre hjm h')
            have HXY : Hid (rpX b (rfA b j p2) = rnX b (rfA b j p2) ∧ rpY b (rfA b j p2) = rnX b (rnA b (rfA b j p2)) ∧ rpA b (rfA b j p2) = rnA b (rnA b (rfA b j p2))) := Lib.hid ⟨rfl, rfl, rfl⟩
            have htxr := hxr.lt
            have htbr := hrr.lt
            have hb4 : Below wr.heap.size wr (wr.alloc (.cells #[.int .i64 0, .int .i64 0] 48)) := (Below.refl _ _).alloc (Nat.le_refl _) _
            have HX4 := Lib.hid (hxr.go hb4)
            have HR4 := Lib.hid (hrr.go hb4)
            have HOr := Lib.hid hor
            have HW4 := Lib.hid hb4
            have HB4 := Lib.hid (Below.then hbr hb4 htl)
            have HF4 := Lib.hid (FdB.new (w := wr) (x := 0) (y := 0))
            generalize rfL b j p2 = L at *
            generalize rfA b j p2 = p at *
            have H4 := Lib.hid (HSM.out p _ HB4.out (by rw [← HL.out]; exact hle))
            unfold SmE at H4
            have f0 := HF4.out.cell0
            have f1 := HF4.out.fr 0
            clear hh hxr hrr hor hbr hre hb4
            go_wp2_with fail
            refine H4.out.mono ?_
            generalize wr.alloc (.cells #[.int .i64 0, .int .i64 0] 48) = w4 at *
            generalize hfb : wr.heap.size = fb at *
            have hfl : wr.heap.size ≤ fb := by omega
            clear hfb
            rintro e w' ⟨rfl, rfl⟩
            have hfb4 : fb < w4.heap.size := HF4.out.lt
            by_cases hz : rnE b p = 0
            · obtain ⟨x0, x1, a4, a5, _⟩ := HRB.out p hle hz
              rw [(HSA.out p hz).1, (HSA.out p hz).2, hz]
              have hp5 : rpE b p = rnE b (rnA b p) := by rw [HPE.out, if_pos hz]
              have HP5 := Lib.hid hp5
              clear hz hp5 H4
              generalize rnA b p = pp at *
              generalize rnX b p = x at *
              have hb5 := HB4.out.setCell (p := ⟨fb, 0, none⟩) (by simp only; omega) (.int .i64 x)
              have HB5 := Lib.hid hb5
              have HX5 := Lib.hid (HX4.out.apart (k := fb) (o := 0) (by omega) (.int .i64 x))
              have HR5 := Lib.hid (HR4.out.apart (k := fb) (o := 0) (by omega) (.int .i64 x))
              have HF5 : Hid (FdB (w4.setCell ⟨fb, 0, none⟩ (.int .i64 x)) fb x 0) := Lib.hid (heap_setCell_same w4 fb 0 _ _ _ HF4.out)
              have HW5 := Lib.hid (HW4.out.setCell (p := ⟨fb, 0, none⟩) (Nat.le_refl _) (.int .i64 x))
              have H5 := Lib.hid (HSM.out pp _ HB5.out (by rw [← HL.out]; exact a5))
              unfold SmE at H5
              clear hb5
              go_wp2_with fail
              refine H5.out.mono ?_
              rintro e w' ⟨rfl, rfl⟩
              have HXY5 := HXY
              have g0 := HF5.out.cell0
              have g1 := HF5.out.cell1
              have g2 := HF5.out.fr 1
              by_cases hz : rnE b pp = 0
              · obtain ⟨y0, y1, a6, a7, _⟩ := HRB.out pp a5 hz
                rw [(HSA.out pp hz).1, (HSA.out pp hz).2, hz]
                have hp0 : rpE b p = 0 := by rw [HP5.out, hz]
                obtain ⟨e1, e2, e3⟩ := HNX.out hp0
                rw [HXY.out.1, HXY.out.2.1] at e2
                rw [HXY.out.2.2] at e3
                have HE1 := Lib.hid e1
                have HE2 := Lib.hid e2
                have HE3 := Lib.hid e3
                clear hz hp0 e1 e2 e3 H5 HXY5 HP5 HBB HNX HXY
                generalize rnA b pp = pq at *
                generalize rnX b pp = y at *
                have HB7 := Lib.hid (HB5.out.setCell (p := ⟨fb, 1, none⟩) (by simp only; omega) (.int .i64 y))
                have HX7 := Lib.hid (HX5.out.apart (k := fb) (o := 1) (by omega) (.int .i64 y))
                have HR7 := Lib.hid (HR5.out.apart (k := fb) (o := 1) (by omega) (.int .i64 y))
                have HF7 := Lib.hid (HF5.out.set1 y)
                have HO7 := Lib.hid (HOr.out.below ((HW5.out.setCell (p := ⟨fb, 1, none⟩) (Nat.le_refl _) (.int .i64 y)).mono hfl))
                have c1 := HX7.out.cell1
                have i0 := HF7.out.cell0
                have i1 := HF7.out.cell1
                have hs7 : ((w4.setCell ⟨fb, 0, none⟩ (.int .i64 x)).setCell ⟨fb, 1, none⟩ (.int .i64 y)).heap.size = w4.heap.size := by simp [World.setCell]
                have htx7 : tx < w4.heap.size := by omega
                have HXN : Hid (Exs (((w4.setCell ⟨fb, 0, none⟩ (.int .i64 x)).setCell ⟨fb, 1, none⟩ (.int .i64 y)).alloc (.cells #[.int .i64 x, .int .i64 y] 48)) (w4.heap.size + 1) (some ⟨w4.heap.size, 0, none⟩) 1 1 [(x, y)]) := Lib.hid (by
                  have := Exs.new ((w4.setCell ⟨fb, 0, none⟩ (.int .i64 x)).setCell ⟨fb, 1, none⟩ (.int .i64 y)) [(x, y)] #[.int .i64 x, .int .i64 y] 48 1 rfl rfl (by unfold maxLen; omega) (fun z hz => by simp at hz; subst hz; simp only; omega)
                  rwa [hs7] at this)
                clear hs7
                clear HB5 HX5 HR5 HF5 HW5 HX4 HR4 HW4 HB4 HF4 HOr f0 f1
                go_wp2_with (at_builtin; go_must (refine wpList_appE _ rfl (.tmp 69) (.tmp 71) 22 rfl Try.underlying22 HI.out HZ.out rfl hz1 (by omega) (HO7.out.alloc _) rfl HXN.out rfl (by have := HLL.out; omega) (by simp; omega) ?_); intro v8 w8 ho8 hb8 hg8; obtain ⟨A8, n8, c8, rfl, hx8⟩ := ho8.shape; have HO8 := Lib.hid ho8; have HB8 : Hid (Below (tx + 1) ((w4.setCell ⟨fb, 0, none⟩ (.int .i64 x)).setCell ⟨fb, 1, none⟩ (.int .i64 y)) w8) := Lib.hid (((Below.refl _ _).alloc (by simp; omega) _).trans hb8); have c4 := (HX7.out.low HB8.out (by omega)).cell1; have c5 := (HX7.out.low HB8.out (by omega)).fr 1; clear ho8 hb8 hx8 hg8)
                have HX9 := Lib.hid ((HX7.out.low HB8.out (by omega)).set1 (A' := A8) (m' := n8) (c' := c8))
                have HR9 := Lib.hid ((HR7.out.low HB8.out (by omega)).apart (k := tx) (o := 1) (by omega) (.slice A8 n8 c8))
                have HO9 := Lib.hid (show OwnE 48 (w8.setCell ⟨tx, 1, none⟩ (.slice A8 n8 c8)) (tx + 1) (.slice A8 n8 c8) (L ++ [(x, y)]) from ⟨ownsRow_setCell_below HO8.out.1 (by simp) _, HO8.out.2⟩)
                have HB9 := Lib.hid ((HB7.out.trans (HB8.out.mono (by omega))).setCell (p := ⟨tx, 1, none⟩) (by simp only; omega) (.slice A8 n8 c8))
                have HLE : Hid (rfA b (j + 1) p2 ≤ b.length ∧ rfA b (j + 1) p2 = pq) := Lib.hid ⟨by rw [HE3.out]; exact a7, HE3.out⟩
                clear HX7 HR7 HO7 HB7 HF7 HO8 HB8 c4 c5 c1 i0 i1 HXN
                go_wp2
                go_roundw
                case rel => exact ⟨j + 1, by omega, by go_num, by rw [HLE.out.2], Lib.hid ⟨A8, n8, c8, HX9.out, HR9.out, by rw [HE2.out]; exact HO9.out, HB9.out, HE1.out, HLE.out.1⟩⟩
                case measure => simp [intOf]; omega
              · have d1 : (rnE b pp != 0) = true := by simpa using hz
                have hd : dcE b = rnE b pp := by rw [HDD.out, HE.out, HBB.out (by rw [HP5.out]; exact hz), HP5.out, if_neg hz]
                have hty := HR5.out.apart (k := fb) (o := 1) (by omega) (.int .i64 (smX b pp))
                have q0 := hty.cell0
                have q1 := hty.cell1
                have q2 := hty.fr 0
                have q3 := hty.fr 1
                have hs3 := hty.set (n' := 0) (A' := none) (m' := 0) (c' := 0)
                have k0 := hs3.cell0
                have k1 := hs3.cell1
                have HOF := Lib.hid ((((HB5.out.setCell (p := ⟨fb, 1, none⟩) (by simp only; omega) (.int .i64 (smX b pp))).setCell (p := ⟨tb, 0, none⟩) (Nat.le_refl _) (.int .i64 0)).setCell (p := ⟨tb, 1, none⟩) (Nat.le_refl _) (.slice none 0 0)))
                have HF := Lib.hid (HFF.out _ _ hd hz HOF.out)
                clear HLO HRB HPB HPE HDD HFF HGG HSA hz HSM hd H5 hs3 hty HNX HBB HXY HXY5 HE HFD HX4 HR4 HOr HW4 HB4 HF4 HB5 HX5 HR5 HF5 HW5 HP5
                generalize rnE b pp = en at *
                generalize smX b pp = sx at *
                generalize smA b pp = sa at *
                have hne1 : ¬ fb = tb := by omega
                have hne2 : ¬ tb = fb := by omega
                go_wp2
                exact bodyPost_ret (v := .tuple #[.agg #[.int .i64 0, .slice none 0 0], .int .i64 0, .int .i64 en]) (by simp [results, Try.results22, go_sem, k0, k1]) rfl HF.out
            · have d1 : (rnE b p != 0) = true := by simpa using hz
              have hp : rpE b p = rnE b p := by rw [HPE.out, if_neg hz]
              have hd : dcE b = rnE b p := by rw [HDD.out, HE.out, HBB.out (by rw [hp]; exact hz), hp, if_neg hz]
              have hty := HR4.out.apart (k := fb) (o := 0) (by omega) (.int .i64 (smX b p))
              have q0 := hty.cell0
              have q1 := hty.cell1
              have q2 := hty.fr 0
              have q3 := hty.fr 1
              have hs3 := hty.set (n' := 0) (A' := none) (m' := 0) (c' := 0)
              have k0 := hs3.cell0
              have k1 := hs3.cell1
              have HOF := Lib.hid ((((HB4.out.setCell (p := ⟨fb, 0, none⟩) (by simp only; omega) (.int .i64 (smX b p))).setCell (p := ⟨tb, 0, none⟩) (Nat.le_refl _) (.int .i64 0)).setCell (p := ⟨tb, 1, none⟩) (Nat.le_refl _) (.slice none 0 0)))
              have HF := Lib.hid (HFF.out _ _ hd hz HOF.out)
              clear HLO HRB HPB HPE HDD HFF HGG HSA hz HSM hp hd H4 hs3 hty HNX HBB HXY HE HFD HX4 HR4 HOr HW4 HB4 HF4
              generalize rnE b p = en at *
              generalize smX b p = sx at *
              generalize smA b p = sa at *
              have hne1 : ¬ fb = tb := by omega
              have hne2 : ¬ tb = fb := by omega
              go_wp2
              exact bodyPost_ret (v := .tuple #[.agg #[.int .i64 0, .slice none 0 0], .int .i64 0, .int .i64 en]) (by simp [results, Try.results22, go_sem, k0, k1]) rfl HF.out
          · obtain rfl : j = M := by omega
            have hjj : ¬ (j : Int) < (j : Int) := by omega
            obtain ⟨A5, m5, c5, e5, hxs⟩ := hor.shape
            cases e5
            have hR0 : dcR b = 0 := by rw [HE.out, hre]
            obtain ⟨_, _, _, hl32⟩ := HLO.out hR0
            rw [HFD.out] at hl32
            have hlen := hxs.len
            have hm32 : m2 ≤ 32 := by omega
            have HBLK : Hid (∀ b' o', A2 = some ⟨b', o', none⟩ → b' ≠ tb) := Lib.hid (fun b' o' e => by
              subst e
              have := (World.ownsRow.lt hor.1 b' (by rcases hor.1.2 with ⟨h0, _⟩ | ⟨g, cap, cur, h0, _⟩ <;> cases h0; rfl)).1
              omega)
            have HCK := Lib.hid (checkR_any n0 A2 m2 c2 _ wr hxs (by omega))
            have HDE : Hid (dcE b = chk n0 (rfL b j p2)) := Lib.hid (by rw [HDD.out, if_pos hR0, HFD.out])
            rw [HFD.out] at HGG
            have HX5 := Lib.hid hxr
            have HR5 := Lib.hid hrr
            have HS5 := Lib.hid hxs
            have HB5 := Lib.hid hbr
            have g0 := hxr.cell0
            have g1 := hxr.cell1
            have htbr := hrr.lt
            clear hh hxr hrr hor hbr hre hle hxs hR0 hlen hl32 HLO HRB HPB HPE HDD HSA HE HFD HSM
            generalize rfL b j p2 = L at *
            generalize rfA b j p2 = pp at *
            generalize chk n0 L = ck at *
            go_wp2_with fail
            refine HCK.out.mono ?_
            rintro e w4 ⟨rfl, hb4⟩
            have HX4 := Lib.hid (HX5.out.go hb4)
            have HR4 := Lib.hid (HR5.out.go hb4)
            have HS4 := Lib.hid (HS5.out.go hb4)
            have HB4 := Lib.hid (Below.then HB5.out hb4 htl)
            clear hb4 HCK HX5 HR5 HS5 HB5 g0 g1
            have q0 := HR4.out.cell0
            have q1 := HR4.out.cell1
            have q2 := HR4.out.fr 0
            have q3 := HR4.out.fr 1
            by_cases hz : ck = 0
            · have hs4 := HR4.out.set (n' := n0) (A' := A2) (m' := m2) (c' := c2)
              have k0 := hs4.cell0
              have k1 := hs4.cell1
              have y0 := HX4.out.cell0
              have y1 := HX4.out.cell1
              have HXF := Lib.hid (((HS4.out.apart (k := tb) (o := 0) HBLK.out (.int .i64 n0)).apart (k := tb) (o := 1) HBLK.out (.slice A2 m2 c2)).more (B' := ((w4.setCell ⟨tb, 0, none⟩ (.int .i64 n0)).setCell ⟨tb, 1, none⟩ (.slice A2 m2 c2)).heap.size) (by simp [World.setCell]))
              have HOF := Lib.hid (((HB4.out.setCell (p := ⟨tb, 0, none⟩) (Nat.le_refl _) (.int .i64 n0)).setCell (p := ⟨tb, 1, none⟩) (Nat.le_refl _) (.slice A2 m2 c2)))
              have HF := Lib.hid (HGG.out _ A2 m2 c2 (by rw [HDE.out, hz]) HXF.out HOF.out)
              subst hz
              clear hs4 HGG HFF HDE
              go_wp2
              exact bodyPost_ret (v := .tuple #[.agg #[.int .i64 n0, .slice A2 m2 c2], .int .i64 pp, .int .i64 0]) (by simp [results, Try.results22, go_sem, k0, k1]) rfl HF.out
            · have d1 : (ck != 0) = true := by simpa using hz
              have hs4 := HR4.out.set (n' := 0) (A' := none) (m' := 0) (c' := 0)
              have k0 := hs4.cell0
              have k1 := hs4.cell1
              have HOF := Lib.hid (((HB4.out.setCell (p := ⟨tb, 0, none⟩) (Nat.le_refl _) (.int .i64 0)).setCell (p := ⟨tb, 1, none⟩) (Nat.le_refl _) (.slice none 0 0)))
              have HF := Lib.hid (HFF.out _ ck HDE.out hz HOF.out)
              clear hs4 HGG HFF HDE hz
              go_wp2
              exact bodyPost_ret (v := .tuple #[.agg #[.int .i64 0, .slice none 0 0], .int .i64 0, .int .i64 ck]) (by simp [results, Try.results22, go_sem, k0, k1]) rfl HF.out
    · have d1 : (rnE b p1 != 0) = true := by simpa using hz
      have HF := Lib.hid (HFF.out _ (rnE b p1) (by rw [HDD.out, HDR.out, HE0.out, if_neg hz, if_neg hz]) hz HOF.out)
      clear HLO HRB HPB HDR HPE HDD HFF HGG HSA hz HSM H1 H2
      generalize rnE b p1 = en at *
      generalize smX b p1 = sx at *
      generalize smA b p1 = sa at *
      go_wp2
      exact bodyPost_ret (v := .tuple #[.agg #[.int .i64 0, .slice none 0 0], .int .i64 0, .int .i64 en]) (by simp [results, Try.results22, go_sem, k0, k1]) rfl HF.out
  · have d1 : (rnE b 0 != 0) = true := by simpa using hz
    have HF := Lib.hid (HFF.out _ (rnE b 0) (by rw [HDD.out, HDR.out, HPE.out, if_neg hz, if_neg hz, if_neg hz]) hz HOF.out)
    clear HLO HRB HPB HDR HPE HDD HFF HGG HSA hz HSM H1
    generalize rnE b 0 = en at *
    generalize smX b 0 = sx at *
    generalize smA b 0 = sa at *
    go_wp2
    exact bodyPost_ret (v := .tuple #[.agg #[.int .i64 0, .slice none 0 0], .int .i64 0, .int .i64 en]) (by simp [results, Try.results22, go_sem, k0, k1]) rfl HF.out
end Go.Proofs.Ytebbnkjjebfgeaa
