/-
  Contracts of package typecode's reader of pairs and of types. Conditions: the bytes are bytes, at most a million.
-/
import Derived.Test.YtebbnkjjebfgeaaTcr
import Derived.Test.YtebbnkjjebfgeaaTyp
namespace Go.Proofs.Ytebbnkjjebfgeaa
open Go.ChangeShapes Go.WideShapes Go.RowKit
set_option linter.unusedVariables false
set_option maxHeartbeats 4000000
set_option maxRecDepth 100000

def spX (b : List Int) (p : Nat) : Int := if rpE b p = 0 then rpX b p else 0
def spY (b : List Int) (p : Nat) : Int := if rpE b p = 0 then rpY b p else 0
/-- What the reader of a pair says. -/
def RpE (w : World) (r : Nat) (b : List Int) (p : Nat) (e : Ending) (w' : World) : Prop :=
  e = .returned (.tuple #[.int .i64 (spX b p), .int .i64 (spY b p), .int .i64 (rpE b p)]) ∧ (∃ q, RS w' r b q ∧ (rpE b p = 0 → q = rpA b p)) ∧ Oth r w w'
theorem readPair_any (r p : Nat) (b : List Int) (w : World) (h : RS w r b p) (hs : Small b) :
    Calls Try.prog 31 #[.pointer (some ⟨r, 0, none⟩)] w (RpE w r b p) := by
  have H1 := Lib.hid (readNumber_any r p b w h hs)
  have H2 := Lib.hid (fun W (hW : RS W r b (rnP b p)) => readNumber_any r (rnP b p) b W hW hs)
  have HRR : Hid (∀ (W : World) (q : Nat), RS W r b q → (rpE b p = 0 → q = rpA b p) → Oth r w W → RpE w r b p (.returned (.tuple #[.int .i64 (spX b p), .int .i64 (spY b p), .int .i64 (rpE b p)])) W) := Lib.hid (fun W q h1 h2 h3 => ⟨rfl, ⟨q, h1, h2⟩, h3⟩)
  have HP : Hid (rnE b p = 0 → rnP b p = rnA b p) := Lib.hid (fun h0 => by unfold rnP; rw [if_pos h0])
  have HSX : Hid (rnE b p = 0 → smX b p = rnX b p) := Lib.hid (fun h0 => by unfold smX; rw [if_pos h0])
  clear h hs
  go_enter Try.func31, Try.ntmps31
  go_wp2_with fail
  refine H1.out.mono ?_
  rintro e w2 ⟨rfl, hr2, ho2⟩
  by_cases hz : rnE b p = 0
  · have HPA := Lib.hid (HP.out hz)
    have HX1 := Lib.hid (HSX.out hz)
    have H2' := Lib.hid (H2.out w2 hr2)
    rw [HPA.out] at H2'
    unfold RnE at H2'
    have HF : Hid (∀ (W : World), RS W r b (rnP b (rnA b p)) → Oth r w W → rnE b (rnA b p) = 0 → RpE w r b p (.returned (.tuple #[.int .i64 (smX b p), .int .i64 (smX b (rnA b p)), .int .i64 0])) W) := Lib.hid (fun W h1 h2 h3 => by
      have he : rpE b p = 0 := by unfold rpE; rw [if_pos hz, h3]
      have := HRR.out W (rnP b (rnA b p)) h1 (fun _ => by unfold rnP rpA; rw [if_pos h3]) h2
      unfold spX spY rpX rpY at this
      rw [if_pos he, if_pos he, he] at this
      rw [HX1.out]
      unfold smX
      rw [if_pos h3]
      exact this)
    have HFB : Hid (∀ (W : World), RS W r b (rnP b (rnA b p)) → Oth r w W → rnE b (rnA b p) ≠ 0 → RpE w r b p (.returned (.tuple #[.int .i64 0, .int .i64 0, .int .i64 (rnE b (rnA b p))])) W) := Lib.hid (fun W h1 h2 h3 => by
      have he : rpE b p = rnE b (rnA b p) := by unfold rpE; rw [if_pos hz]
      have := HRR.out W _ h1 (fun h0 => absurd (he.symm.trans h0) h3) h2
      unfold spX spY at this
      rw [if_neg (by rw [he]; exact h3), if_neg (by rw [he]; exact h3), he] at this
      exact this)
    have HO2 := Lib.hid ho2
    rw [hz]
    clear hz hr2 ho2 H1 H2 HRR HP HSX
    generalize rnP b (rnA b p) = pp at *
    generalize hne : rnE b (rnA b p) = en at *
    generalize smX b (rnA b p) = sy at *
    generalize smX b p = sx at *
    go_wp2_with fail
    refine H2'.out.mono ?_
    rintro e w3 ⟨rfl, hr3, ho3⟩
    have HR3 := Lib.hid hr3
    have HO3 := Lib.hid (HO2.out.trans ho3)
    clear hr3 ho3 hne H2'
    by_cases hz : en = 0
    · have HFF := Lib.hid (HF.out w3 HR3.out HO3.out hz)
      subst hz
      clear HF HFB
      go_wp2
      go_ret3
      exact HFF.out
    · have d1 : (en != 0) = true := by simpa using hz
      have HFF := Lib.hid (HFB.out w3 HR3.out HO3.out hz)
      clear hz
      go_wp2
      go_ret3
      exact HFF.out
  · have d1 : (rnE b p != 0) = true := by simpa using hz
    have HFB : Hid (∀ (W : World), RS W r b (rnP b p) → Oth r w W → RpE w r b p (.returned (.tuple #[.int .i64 0, .int .i64 0, .int .i64 (rnE b p)])) W) := Lib.hid (fun W h1 h2 => by
      have he : rpE b p = rnE b p := by unfold rpE; rw [if_neg hz]
      have := HRR.out W _ h1 (fun h0 => absurd (he.symm.trans h0) hz) h2
      unfold spX spY at this
      rw [if_neg (by rw [he]; exact hz), if_neg (by rw [he]; exact hz), he] at this
      exact this)
    have HR2 := Lib.hid hr2
    have HO2 := Lib.hid ho2
    clear hz hr2 ho2 H1 H2 HRR HP HSX
    generalize rnE b p = en at *
    go_wp2
    go_ret3
    exact HFB.out w2 HR2.out HO2.out

section
variable {w w' : World} {r p t B : Nat} {b : List Int}
theorem RS.low (h : RS w r b p) (hb : Below B w w') (hB : r < B) : RS w' r b p := by
  obtain ⟨A, n, c, h1, h2, h3, h4⟩ := h
  exact ⟨A, n, c, (hb.block r hB).trans h1, h2.below (hb.mono (Nat.le_of_lt hB)), h3, h4⟩
theorem RS.apart (h : RS w r b p) {o : Nat} (hb : r < t) (u : Value) : RS (w.setCell ⟨t, o, none⟩ u) r b p :=
  h.low (B := t) ((Below.refl t w).setCell (p := ⟨t, o, none⟩) (Nat.le_refl _) u) hb
end
/-- What the reader of a type says. -/
def RtE (w : World) (r : Nat) (b : List Int) (e : Ending) (w' : World) : Prop :=
  ∃ (n : Int) (A : Option Addr) (m c : Nat) (l : List (Int × Int)), e = .returned (.tuple #[.agg #[.int .i64 n, .slice A m c], .int .i64 (dcR b)]) ∧ OwnE 48 w' w.heap.size (.slice A m c) l ∧ Oth r w w' ∧
    (dcR b ≠ 0 → n = 0 ∧ l = []) ∧ (dcR b = 0 → n = rpX b 0 ∧ l = dcF b ∧ RS w' r b (rfA b (rpY b 0).toNat (rpA b 0)))
theorem readType_any (r : Nat) (b : List Int) (w : World) (h : RS w r b 0) (hs : Small b) :
    Calls Try.prog 23 #[.pointer (some ⟨r, 0, none⟩)] w (RtE w r b) := by
  have hb0 : Below w.heap.size w (w.alloc (.cells #[.int .i64 0, .slice none 0 0] 24)) := (Below.refl _ _).alloc (Nat.le_refl _) _
  have HS := Lib.hid hs
  have HR0 := Lib.hid (TyB.new (w := w) (n := 0) (A := none) (m := 0) (c := 0))
  have HO0 := Lib.hid (Oth.ofBelow (b := r) hb0)
  have hlt := h.lt
  have H1 := Lib.hid (readPair_any r 0 b _ (h.go hb0) hs)
  have HBAD : Hid (∀ (W : World), dcR b ≠ 0 → Oth r w W → RtE w r b (.returned (.tuple #[.agg #[.int .i64 0, .slice none 0 0], .int .i64 (dcR b)])) W) := Lib.hid (fun W h1 h2 => ⟨0, none, 0, 0, [], rfl, OwnE.nil _ _ _, h2, fun _ => ⟨rfl, rfl⟩, fun h3 => absurd h3 h1⟩)
  have HGOOD : Hid (∀ (W : World) (A : Option Addr) (m c : Nat), dcR b = 0 → OwnE 48 W w.heap.size (.slice A m c) (dcF b) → RS W r b (rfA b (rpY b 0).toNat (rpA b 0)) → Oth r w W → RtE w r b (.returned (.tuple #[.agg #[.int .i64 (rpX b 0), .slice A m c], .int .i64 0])) W) :=
    Lib.hid (fun W A m c h1 h2 h3 h4 => ⟨_, A, m, c, dcF b, by rw [h1], h2, h4, fun h5 => absurd h1 h5, fun _ => ⟨rfl, rfl, h3⟩⟩)
  have HDR : Hid (dcR b = if rpE b 0 = 0 then (if 32 < rpY b 0 then 4 else rfE b (rpY b 0).toNat (rpA b 0)) else rpE b 0) := Lib.hid rfl
  have HBD := Lib.hid (fun h0 => rp_bd hs (Nat.zero_le _) (h0 : rpE b 0 = 0))
  have HSX : Hid (rpE b 0 = 0 → spX b 0 = rpX b 0 ∧ spY b 0 = rpY b 0) := Lib.hid (fun h0 => by unfold spX spY; rw [if_pos h0, if_pos h0]; exact ⟨rfl, rfl⟩)
  unfold RpE at H1
  clear h hb0 hs
  go_enter Try.func23, Try.ntmps23
  go_wp2_with fail
  refine H1.out.mono ?_
  generalize w.alloc (.cells #[.int .i64 0, .slice none 0 0] 24) = w1 at *
  generalize htb : w.heap.size = tb at *
  rintro e w2 ⟨rfl, ⟨q, hq, hqe⟩, ho2⟩
  have HR2 := Lib.hid (HR0.out.oth ho2 (by omega))
  have HQ := Lib.hid (And.intro hq hqe)
  have HO2 := Lib.hid (HO0.out.trans ho2)
  have hw1 : tb < w1.heap.size := HR0.out.lt
  have hw2 := ho2.size
  have htl : w.heap.size ≤ tb := by omega
  clear ho2 H1 HR0 HO0 hq hqe htb
  by_cases hz : rpE b 0 = 0
  · have HQ0 : Hid (RS w2 r b (rpA b 0)) := Lib.hid (by have := HQ.out.1; rwa [HQ.out.2 hz] at this)
    obtain ⟨x0, x1, y0, y1, a0, a1⟩ := HBD.out hz
    have HDE : Hid (dcR b = if 32 < rpY b 0 then 4 else rfE b (rpY b 0).toNat (rpA b 0)) := Lib.hid (by rw [HDR.out, if_pos hz])
    rw [(HSX.out hz).1, (HSX.out hz).2, hz]
    have HZ0 := Lib.hid hz
    clear HQ HBD HDR HSX hz
    by_cases hbig : 32 < rpY b 0
    · have HE : Hid (dcR b = 4) := Lib.hid (by rw [HDE.out, if_pos hbig])
      have HF : Hid (∀ W : World, Oth r w W → RtE w r b (.returned (.tuple #[.agg #[.int .i64 0, .slice none 0 0], .int .i64 4])) W) := Lib.hid (fun W h1 => by
        have := HBAD.out W (by rw [HE.out]; omega) h1
        rwa [HE.out] at this)
      have q0 := HR2.out.cell0
      have q1 := HR2.out.cell1
      have q2 := HR2.out.fr 0
      have q3 := HR2.out.fr 1
      have hs3 := HR2.out.set (n' := 0) (A' := none) (m' := 0) (c' := 0)
      have k0 := hs3.cell0
      have k1 := hs3.cell1
      have HO3 := Lib.hid ((HO2.out.far (t := tb) (o := 0) htl (.int .i64 0)).far (t := tb) (o := 1) htl (.slice none 0 0))
      clear hs3 HE HDE HBAD HGOOD
      generalize rpY b 0 = yy at *
      generalize rpX b 0 = xx at *
      go_wp2
      exact bodyPost_ret (v := .tuple #[.agg #[.int .i64 0, .slice none 0 0], .int .i64 4]) (by simp [results, Try.results23, go_sem, k0, k1]) rfl (HF.out _ HO3.out)
    · have HE : Hid (dcR b = rfE b (rpY b 0).toNat (rpA b 0)) := Lib.hid (by rw [HDE.out, if_neg hbig])
      obtain ⟨M, hM⟩ := Int.eq_ofNat_of_zero_le y0
      have HFF : Hid (dcF b = rfL b M (rpA b 0)) := Lib.hid (by unfold dcF; rw [hM]; rfl)
      rw [hM] at HE HGOOD hbig
      rw [Int.toNat_natCast] at HE HGOOD
      rw [hM]
      have hM32 : M ≤ 32 := by omega
      have hb3 : Below w2.heap.size w2 (w2.alloc (.cells #[.int .i64 (rpX b 0), .slice none 0 0] 24)) := (Below.refl _ _).alloc (Nat.le_refl _) _
      have HX3 := Lib.hid (TyB.new (w := w2) (n := rpX b 0) (A := none) (m := 0) (c := 0))
      have HR3 := Lib.hid (HR2.out.go hb3)
      have HQ3 := Lib.hid (HQ0.out.go hb3)
      have HO3 := Lib.hid (HO2.out.trans (Oth.ofBelow hb3))
      have htt : tb < w2.heap.size := HR2.out.lt
      clear hb3 HQ0 HR2 HO2 HDE hbig y0 y1 hM
      obtain ⟨P0, hP0⟩ : ∃ P0, rpA b 0 = P0 := ⟨_, rfl⟩
      rw [hP0] at HE HGOOD HFF HQ3 a0 a1
      clear hP0
      generalize rpX b 0 = n at *
      go_wp2
      generalize w2.alloc (.cells #[.int .i64 n, .slice none 0 0] 24) = w3 at *
      generalize htx : w2.heap.size = tx at *
      have htx3 : tx < w3.heap.size := HX3.out.lt
      clear htx hw2
      obtain ⟨i0, hi0, hz0, hz1, hz2⟩ := info_parts infoFd
      have HI := Lib.hid hi0
      have HZ := Lib.hid hz0
      clear hi0 hz0
      go_loopw [27] (fun kv wr => ∃ (j : Nat), j ≤ M ∧ kv = .int .i64 j ∧ Hid (∃ A m c, TyB wr tx n A m c ∧ TyB wr tb 0 none 0 0 ∧ OwnE 48 wr (tx + 1) (.slice A m c) (rfL b j P0) ∧ RS wr r b (rfA b j P0) ∧ Oth r w wr ∧ rfE b j P0 = 0)) (fun kv _ => M - (intOf kv).toNat)
      case atStart => exact ⟨0, by omega, rfl, Lib.hid ⟨none, 0, 0, HX3.out, HR3.out, OwnE.nil _ _ _, HQ3.out, HO3.out, rfl⟩⟩
      case round =>
        obtain ⟨j, hj, rfl, hh⟩ := hrel
        obtain ⟨A, m, c, hxr, hrr, hor, hqr, hoo, hre⟩ := hh.out
        clear HX3 HR3 HQ3 HO3
        by_cases hjm : j < M
        · have hj1 : (j : Int) < (M : Int) := by omega
          have H4 := Lib.hid (readPair_any r (rfA b j P0) b wr hqr HS.out)
          have HNX := Lib.hid (fun h' => rf_next hre h')
          have HBB := Lib.hid (fun h' => rf_bad hre hjm h')
          have HBD := Lib.hid (fun h0 => rp_bd HS.out (rf_bd HS.out a1 hre).2.1 h0)
          have HSX : Hid (rpE b (rfA b j P0) = 0 → spX b (rfA b j P0) = rpX b (rfA b j P0) ∧ spY b (rfA b j P0) = rpY b (rfA b j P0)) := Lib.hid (fun h0 => by unfold spX spY; rw [if_pos h0, if_pos h0]; exact ⟨rfl, rfl⟩)
          have HLL : Hid ((rfL b j P0).length = j) := Lib.hid rfL_len
          unfold RpE at H4
          have HXr := Lib.hid hxr
          have HRr := Lib.hid hrr
          have HOr := Lib.hid hor
          have HOO := Lib.hid hoo
          have htxr := hxr.lt
          clear hh hxr hrr hor hqr hoo hre
          go_wp2_with fail
          refine H4.out.mono ?_
          rintro e w5 ⟨rfl, ⟨q, hq, hqe⟩, ho5⟩
          have HX5 := Lib.hid (HXr.out.oth ho5 (by omega))
          have HR5 := Lib.hid (HRr.out.oth ho5 (by omega))
          have HO5 := Lib.hid (HOr.out.oth ho5 (by omega))
          have HOO5 := Lib.hid (HOO.out.trans ho5)
          have htx5 := HX5.out.lt
          by_cases hz : rpE b (rfA b j P0) = 0
          · obtain ⟨e1, e2, e3⟩ := HNX.out hz
            rw [hqe hz] at hq
            have HQ5 := Lib.hid hq
            obtain ⟨u0, u1, v0, v1, _, _⟩ := HBD.out hz
            rw [(HSX.out hz).1, (HSX.out hz).2, hz]
            have HE1 := Lib.hid e1
            have HE2 := Lib.hid e2
            have HE3 := Lib.hid e3
            clear HNX HBB HBD HSX e1 e2 e3 hz hq hqe ho5 H4 HXr HRr HOr HOO
            generalize rpX b (rfA b j P0) = x at *
            generalize rpY b (rfA b j P0) = y at *
            generalize rfL b j P0 = L at *
            have c1 := HX5.out.cell1
            go_wp2_with (at_builtin; go_must (refine wpList_appE _ rfl (.tmp 40) (.tmp 44) 22 rfl Try.underlying22 HI.out HZ.out rfl hz1 (by omega) (HO5.out.alloc _) rfl (Exs.new w5 [(x, y)] _ _ 1 rfl rfl (by unfold maxLen; omega) (fun z hz => by simp at hz; subst hz; simp only; omega)) rfl (by have := HLL.out; omega) (by simp; omega) ?_); intro v6 w6 ho6 hb6 hg6; obtain ⟨A6, n6, c6, rfl, hx6⟩ := ho6.shape; have HO6 := Lib.hid ho6; have HB6 : Hid (Below (tx + 1) w5 w6) := Lib.hid (((Below.refl _ _).alloc (by omega) _).trans hb6); have c4 := (HX5.out.low HB6.out (by omega)).cell1; have c5 := (HX5.out.low HB6.out (by omega)).fr 1; clear ho6 hb6 hx6 hg6)
            have HX7 := Lib.hid ((HX5.out.low HB6.out (by omega)).set1 (A' := A6) (m' := n6) (c' := c6))
            have HR7 := Lib.hid ((HR5.out.low HB6.out (by omega)).apart (k := tx) (o := 1) (by omega) (.slice A6 n6 c6))
            have HO7 := Lib.hid (show OwnE 48 (w6.setCell ⟨tx, 1, none⟩ (.slice A6 n6 c6)) (tx + 1) (.slice A6 n6 c6) (L ++ [(x, y)]) from ⟨ownsRow_setCell_below HO6.out.1 (by simp) _, HO6.out.2⟩)
            have HQ7 := Lib.hid ((HQ5.out.low HB6.out (by omega)).apart (t := tx) (o := 1) (by omega) (.slice A6 n6 c6))
            have HOO7 := Lib.hid ((HOO5.out.upto HB6.out (by omega)).far (t := tx) (o := 1) (by omega) (.slice A6 n6 c6))
            clear HX5 HO5 HR5 HQ5 HOO5 HO6 HB6 c4 c5 c1
            go_roundw
            case rel => exact ⟨j + 1, by omega, by go_num, Lib.hid ⟨A6, n6, c6, HX7.out, HR7.out, by rw [HE2.out]; exact HO7.out, by rw [HE3.out]; exact HQ7.out, HOO7.out, HE1.out⟩⟩
            case measure => simp [intOf]; omega
          · have HEB : Hid (dcR b = rpE b (rfA b j P0)) := Lib.hid (by rw [HE.out, HBB.out hz])
            have HF : Hid (∀ W : World, Oth r w W → RtE w r b (.returned (.tuple #[.agg #[.int .i64 0, .slice none 0 0], .int .i64 (rpE b (rfA b j P0))])) W) := Lib.hid (fun W h1 => by
              have := HBAD.out W (by rw [HEB.out]; exact hz) h1
              rwa [HEB.out] at this)
            have d1 : (rpE b (rfA b j P0) != 0) = true := by simpa using hz
            have q0 := HR5.out.cell0
            have q1 := HR5.out.cell1
            have q2 := HR5.out.fr 0
            have q3 := HR5.out.fr 1
            have hs3 := HR5.out.set (n' := 0) (A' := none) (m' := 0) (c' := 0)
            have k0 := hs3.cell0
            have k1 := hs3.cell1
            have HOF := Lib.hid ((HOO5.out.far (t := tb) (o := 0) htl (.int .i64 0)).far (t := tb) (o := 1) htl (.slice none 0 0))
            clear hs3 HEB HE HBAD HGOOD HNX HBB HBD HSX hz hq hqe ho5 H4 HXr HRr HOr HOO HX5 HO5 HR5 HOO5
            generalize rpE b (rfA b j P0) = en at *
            generalize spX b (rfA b j P0) = sx at *
            generalize spY b (rfA b j P0) = sy at *
            go_wp2
            exact bodyPost_ret (v := .tuple #[.agg #[.int .i64 0, .slice none 0 0], .int .i64 en]) (by simp [results, Try.results23, go_sem, k0, k1]) rfl (HF.out _ HOF.out)
        · obtain rfl : j = M := by omega
          have hjj : ¬ (j : Int) < (j : Int) := by omega
          have g0 := hxr.cell0
          have g1 := hxr.cell1
          have q0 := hrr.cell0
          have q1 := hrr.cell1
          have q2 := hrr.fr 0
          have q3 := hrr.fr 1
          have hs5 := hrr.set (n' := n) (A' := A) (m' := m) (c' := c)
          have HQ6 := Lib.hid ((hqr.apart (t := tb) (o := 0) (by omega) (.int .i64 n)).apart (t := tb) (o := 1) (by omega) (.slice A m c))
          have HO6 := Lib.hid ((hoo.far (t := tb) (o := 0) htl (.int .i64 n)).far (t := tb) (o := 1) htl (.slice A m c))
          have HX6 : Hid (OwnE 48 ((wr.setCell ⟨tb, 0, none⟩ (.int .i64 n)).setCell ⟨tb, 1, none⟩ (.slice A m c)) tb (.slice A m c) (rfL b j P0)) := Lib.hid (OwnE.down (base := tx + 1) ⟨ownsRow_setCell_below (ownsRow_setCell_below hor.1 (by simp only; omega) _) (by simp only; omega) _, hor.2⟩ (by omega))
          have k0 := hs5.cell0
          have k1 := hs5.cell1
          have HFIN := Lib.hid (HGOOD.out _ A m c (by rw [HE.out]; exact hre) (by rw [HFF.out]; exact HX6.out) HQ6.out HO6.out)
          clear hh hxr hrr hor hqr hoo hre hs5 HBAD HGOOD HE HFF
          go_wp2
          exact bodyPost_ret (v := .tuple #[.agg #[.int .i64 n, .slice A m c], .int .i64 0]) (by simp [results, Try.results23, go_sem, k0, k1]) rfl HFIN.out
  · have HE : Hid (dcR b = rpE b 0) := Lib.hid (by rw [HDR.out, if_neg hz])
    have HF : Hid (∀ W : World, Oth r w W → RtE w r b (.returned (.tuple #[.agg #[.int .i64 0, .slice none 0 0], .int .i64 (rpE b 0)])) W) := Lib.hid (fun W h1 => by
      have := HBAD.out W (by rw [HE.out]; exact hz) h1
      rwa [HE.out] at this)
    have d1 : (rpE b 0 != 0) = true := by simpa using hz
    clear HBAD HGOOD HDR HBD HSX HE hz
    have q0 := HR2.out.cell0
    have q1 := HR2.out.cell1
    have q2 := HR2.out.fr 0
    have q3 := HR2.out.fr 1
    have hs3 := HR2.out.set (n' := 0) (A' := none) (m' := 0) (c' := 0)
    have k0 := hs3.cell0
    have k1 := hs3.cell1
    have HO3 := Lib.hid ((HO2.out.far (t := tb) (o := 0) htl (.int .i64 0)).far (t := tb) (o := 1) htl (.slice none 0 0))
    clear hs3
    generalize rpE b 0 = en at *
    go_wp2
    exact bodyPost_ret (v := .tuple #[.agg #[.int .i64 0, .slice none 0 0], .int .i64 en]) (by simp [results, Try.results23, go_sem, k0, k1]) rfl (HF.out _ HO3.out)
end Go.Proofs.Ytebbnkjjebfgeaa
