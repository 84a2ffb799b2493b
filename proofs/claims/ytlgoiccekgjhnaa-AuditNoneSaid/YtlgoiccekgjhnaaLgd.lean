/-
  Contract of the landed Decode: what it returns is what the plain functions of the text Alp say. Conditions: the bytes are bytes, at most a hundred thousand.
-/
import Derived.Test.YtlgoiccekgjhnaaLgb
import Derived.Test.YtlgoiccekgjhnaaAmd
namespace Go.Proofs.Ytlgoiccekgjhnaa
open Go.ChangeShapes Go.WideShapes Go.ChangeAt Go.RowKit
set_option linter.unusedVariables false
set_option linter.unusedSimpArgs false
set_option maxHeartbeats 8000000
set_option maxRecDepth 100000

theorem equalB_any {A A2 : Option Addr} {n c n2 c2 B B2 : Nat} {l m : List Int} (w : World) (h : Bts w B A n c l) (h2 : Bts w B2 A2 n2 c2 m) (hs : Small l) (hm : Small m) :
    Calls Try.prog 73 #[.slice A n c, .slice A2 n2 c2] w fun e w' => e = .returned (.bool (decide (l = m))) ∧ w' = w := by
  have r1 := bts_run h
  have r2 := bts_run h2
  have HQ : Hid (decide (l = m) = ((strOfNums l).toList == (strOfNums m).toList)) := Lib.hid (by
    by_cases e : l = m
    · subst e; simp
    · rw [decide_eq_false e, eq_comm, beq_eq_false_iff_ne]
      exact fun h' => e (str_inj hs hm (str_list h')))
  generalize decide (l = m) = q at *
  generalize strOfNums l = S at *
  generalize strOfNums m = S2 at *
  clear h h2 hs hm
  go_enter Try.func73, Try.ntmps73
  go_wp2
  go_ret
  rw [HQ.out]
  exact ⟨rfl, rfl⟩
theorem suffix_any {A A2 : Option Addr} {n c n2 c2 B B2 : Nat} {l m : List Int} (w : World) (h : Bts w B A n c l) (h2 : Bts w B2 A2 n2 c2 m) (hs : Small l) (hm : Small m) (hle : n2 ≤ n) :
    Calls Try.prog 56 #[.slice A n c, .slice A2 n2 c2] w fun e w' => e = .returned (.bool (decide (l.drop (n - n2) = m))) ∧ w' = w := by
  have hcap := h.cap
  have hsml := h.small
  unfold maxLen at hsml
  obtain ⟨A', hsl, hcut⟩ := cut_lo A n c (n - n2) l (by omega) hcap
  have hb := hcut w B h
  have HE := Lib.hid (equalB_any w hb h2 (hs.drop _) hm)
  have e1 : IntKind.i64.wrap ((n : Int) - (n2 : Int)) = ((n - n2 : Nat) : Int) := by rw [IntKind.wrap_i64]; omega
  have e2 : (n2 : Int) ≤ (n : Int) := by omega
  have hslw := hsl w
  generalize decide (l.drop (n - n2) = m) = q at *
  generalize n - (n - n2) = n3 at *
  generalize n - n2 = n4 at *
  clear h h2 hs hm hcut hb hsl
  go_enter Try.func56, Try.ntmps56
  go_wp2_with fail
  refine HE.out.mono ?_
  rintro e w1 ⟨rfl, hww⟩
  subst hww
  go_wp2
  go_ret
  exact ⟨rfl, rfl⟩
section
variable {A : Option Addr} {n c : Nat} {b : List Int}
/-- The ways of readRecord. -/
theorem rr_bad (w : World) (h : Bts w w.heap.size A n c b) (hs : Small b) (hn : n ≤ 100000) (he : rbE b ≠ 0) :
    Calls Try.prog 54 #[.slice A n c] w fun e w' => e = .returned (.tuple #[.slice none 0 0, .int .i64 0, .int .i64 (rbE b)]) ∧ Below w.heap.size w w' := by
  have HB := Lib.hid (bytes_any A n c b w h hs (by omega))
  unfold GotB at HB
  have hz : (rbE b != 0) = true := by simpa using he
  generalize rbE b = er at *
  generalize rbK b = kk at *
  clear h hs he
  go_enter Try.func54, Try.ntmps54
  go_wp2_with fail
  refine HB.out.mono ?_
  rintro e w1 ⟨v1, rfl, ho1, hb1⟩
  have HB1 := Lib.hid hb1
  clear HB ho1 hb1
  go_wp2
  go_ret3
  exact ⟨rfl, HB1.out⟩
theorem rr_short (w : World) (h : Bts w w.heap.size A n c b) (hs : Small b) (hn : n ≤ 100000) (he : rbE b = 0) (h8 : (n : Int) - rbK b < 8) :
    Calls Try.prog 54 #[.slice A n c] w fun e w' => e = .returned (.tuple #[.slice none 0 0, .int .i64 0, .int .i64 2]) ∧ Below w.heap.size w w' := by
  have HB := Lib.hid (bytes_any A n c b w h hs (by omega))
  unfold GotB at HB
  rw [he] at HB
  have hri := rb_in hs he
  have hlen := h.len
  have e1 : IntKind.i64.wrap ((n : Int) - rbK b) = (n : Int) - rbK b := by rw [IntKind.wrap_i64]; omega
  generalize rbK b = kk at *
  clear h hs he hri
  go_enter Try.func54, Try.ntmps54
  go_wp2_with fail
  refine HB.out.mono ?_
  rintro e w1 ⟨v1, rfl, ho1, hb1⟩
  have HB1 := Lib.hid hb1
  clear HB ho1 hb1
  go_wp2
  go_ret3
  exact ⟨rfl, HB1.out⟩
theorem rr_ok (w : World) (h : Bts w w.heap.size A n c b) (hs : Small b) (hn : n ≤ 100000) (he : rbE b = 0) (h8 : 8 ≤ (n : Int) - rbK b) :
    Calls Try.prog 54 #[.slice A n c] w fun e w' => ∃ v, e = .returned (.tuple #[v, .int .i64 (rbK b + 8), .int .i64 0]) ∧ OwnB w' w.heap.size v (rbS b) ∧ Below w.heap.size w w' := by
  have HB := Lib.hid (bytes_any A n c b w h hs (by omega))
  unfold GotB at HB
  rw [he] at HB
  have hri := rb_in hs he
  have hlen := h.len
  have e1 : IntKind.i64.wrap ((n : Int) - rbK b) = (n : Int) - rbK b := by rw [IntKind.wrap_i64]; omega
  have e2 : IntKind.i64.wrap (rbK b + 8) = rbK b + 8 := by rw [IntKind.wrap_i64]; omega
  have e3 : ¬ (n : Int) - rbK b < 8 := by omega
  generalize rbK b = kk at *
  clear h hs he hri h8
  go_enter Try.func54, Try.ntmps54
  go_wp2_with fail
  refine HB.out.mono ?_
  rintro e w1 ⟨v1, rfl, ho1, hb1⟩
  have HB1 := Lib.hid hb1
  have HO1 := Lib.hid ho1
  clear HB ho1 hb1
  go_wp2
  go_ret3
  exact ⟨v1, rfl, HO1.out, HB1.out⟩
end
theorem decodeL_any (A : Option Addr) (n c : Nat) (b : List Int) (w : World) (h : Bts w w.heap.size A n c b) (hs : Small b) (hn : n ≤ 100000) :
    Calls Try.prog 22 #[.slice A n c] w (DlE w b) := by
  obtain ⟨ie, hie, hz0, hz1, hz2⟩ := info_parts infoE
  have HIE := Lib.hid hie
  have HZE := Lib.hid hz0
  have HZ1 := Lib.hid hz1
  clear hie hz0 hz1
  have HN := Lib.hid (sum_any none 0 0 [] w (B := 0) Row.none_ (fun x hx => by cases hx) (by omega))
  rw [fnv_nil] at HN
  have hblen := h.len
  have HH := Lib.hid h
  have HS := Lib.hid hs
  have hcap := h.cap
  have hsm := h.small
  unfold maxLen at hsm
  have HER : Hid (∀ (W : World) (E : Int), E ≠ 0 → lgE b = E → Below w.heap.size w W → DlE w b (.returned (.tuple #[.slice none 0 0, .int .i64 E])) W) := Lib.hid (fun W E h0 h1 h2 => ⟨_, by rw [h1], by
    have h3 : lgL b = [] := if_neg (by rw [h1]; exact h0)
    rw [h3]
    exact OwnK.nil _ _ _ _, h2⟩)
  have HOK : Hid (∀ (W : World) (v : Value), lgE b = 0 → OwnK ev5 27 W w.heap.size v (dgL b.length start b) → Below w.heap.size w W → DlE w b (.returned (.tuple #[v, .int .i64 0])) W) := Lib.hid (fun W v h1 h2 h3 => ⟨_, by rw [h1], by
    have h4 : lgL b = dgL b.length start b := if_pos h1
    rw [h4]
    exact h2, h3⟩)
  have HE0 : Hid (dgE b.length start b = lgE b) := Lib.hid rfl
  obtain ⟨LF, hLF⟩ : ∃ LF, dgL b.length start b = LF := ⟨_, rfl⟩
  rw [hLF] at HOK
  have HL0 := Lib.hid hLF
  clear hLF
  generalize lgE b = E0 at *
  unfold Num at HN
  have hst := start_bd
  obtain ⟨st, hst0⟩ : ∃ st, start = st := ⟨_, rfl⟩
  rw [hst0] at HN hst HE0
  clear h hs
  go_enter Try.func22, Try.ntmps22
  go_wp2_with fail
  refine HN.out.mono ?_
  rintro e w1 ⟨rfl, hww⟩
  subst hww
  clear HN
  go_wp2
  go_loopw [0, 4, 5] (fun bw ov dv wr => ∃ A3 n3 c3, bw = .slice A3 n3 c3 ∧ n3 ≤ c3 ∧ c3 ≤ 9223372036854775807 ∧ n3 ≤ n ∧ ∃ A4 n4 c4, ov = .slice A4 n4 c4 ∧ n4 + n3 ≤ n ∧ ∃ d : Int, dv = .int .u64 d ∧ 0 ≤ d ∧ d < 18446744073709551616 ∧ Hid (∃ bb L f, n3 ≤ f ∧ Bts wr w.heap.size A3 n3 c3 bb ∧ Small bb ∧ OwnK ev5 27 wr w.heap.size (.slice A4 n4 c4) L ∧ dgE f d bb = E0 ∧ L ++ dgL f d bb = LF ∧ Below w.heap.size w wr)) (fun bw _ _ _ => match bw with | .slice _ m _ => m | _ => 0)
  case atStart => exact ⟨A, n, c, rfl, hcap, hsm, Nat.le_refl _, none, 0, 0, rfl, by omega, st, rfl, hst.1, hst.2, Lib.hid ⟨b, [], b.length, by omega, HH.out, HS.out, OwnK.nil _ _ _ _, HE0.out, by rw [← hst0, List.nil_append]; exact HL0.out, Below.refl _ _⟩⟩
  case round =>
    obtain ⟨A3, n3, c3, rfl, hcap3, hsm3, hn3, A4, n4, c4, rfl, hn4, d, rfl, d0, d1, hh⟩ := hrel
    obtain ⟨bb, L, f, hf, hbt, hsb, hol, hE, hL, hbw⟩ := hh.out
    have HBT := Lib.hid hbt
    have HSB := Lib.hid hsb
    have HOL := Lib.hid hol
    have HE := Lib.hid hE
    have HL := Lib.hid hL
    have HBW := Lib.hid hbw
    have hlb := hbt.len
    clear hh hbt hsb hol hE hL hbw HE0 HL0
    by_cases hz : n3 = 0
    · have hb0 : bb.length = 0 := by omega
      obtain ⟨g1, g2⟩ := dg_nil (f := f) (d := d) hb0
      have HF := Lib.hid (HOK.out wr (.slice A4 n4 c4) (by rw [← HE.out, g1]) (by rw [← HL.out, g2, List.append_nil]; exact HOL.out) HBW.out)
      clear hb0 g1 g2 hn hn3 hcap3 hsm3 hf hn4
      subst hz
      go_wp2
      go_ret2
      exact HF.out
    · have hpos : 0 < n3 := by omega
      have HRB := Lib.hid (fun h0 => rr_bad wr (HBT.out.more HBW.out.size) HSB.out (by omega) h0)
      have HRS := Lib.hid (fun h0 h1 => rr_short wr (HBT.out.more HBW.out.size) HSB.out (by omega) h0 h1)
      have HRO := Lib.hid (fun h0 h1 => rr_ok wr (HBT.out.more HBW.out.size) HSB.out (by omega) h0 h1)
      have HRI := Lib.hid (fun h0 => rb_in HSB.out h0)
      have HDE := Lib.hid (fun h0 => dg_err (f := f) (d := d) (b := bb) (by omega) (by omega) h0)
      have HDS := Lib.hid (fun h0 h1 => dg_short (f := f) (d := d) (b := bb) (by omega) (by omega) h0 h1)
      have HDB := Lib.hid (fun h0 h1 h2 => dg_bad (f := f) (d := d) (b := bb) (by omega) (by omega) h0 h1 h2)
      have HDC := Lib.hid (fun h0 h1 h2 h3 => dg_chain (f := f) (d := d) (b := bb) (by omega) (by omega) h0 h1 h2 h3)
      have HDM := Lib.hid (fun h0 h1 h2 h3 => dg_more (f := f - 1) (d := d) (b := bb) (by omega) h0 h1 h2 h3)
      rw [show f - 1 + 1 = f by omega] at HDM
      generalize rbE bb = er at *
      generalize hkk : rbK bb = kk at *
      generalize rbS bb = rr at *
      clear hkk
      by_cases her : er = 0
      · subst her
        obtain ⟨k0, k1, hsr, hlr⟩ := HRI.out (by first | rfl | trivial)
        obtain ⟨kz, rfl⟩ : ∃ kz : Nat, kk = kz := ⟨kk.toNat, by omega⟩
        have hkn : kz ≤ n3 := by omega
        have HSR := Lib.hid hsr
        clear HDE HRI HRB hsr
        by_cases h8 : n3 - kz < 8
        · have HX := Lib.hid (HRS.out (by first | rfl | trivial) (by omega))
          have HE2 := Lib.hid (show E0 = 2 by rw [← HE.out]; exact HDS.out (by first | rfl | trivial) (by omega))
          clear HDS HDB HDC HDM HRS HRO
          go_wp2_with fail
          refine HX.out.mono ?_
          rintro e w2 ⟨rfl, hb2⟩
          have HF := Lib.hid (HER.out w2 2 (by omega) HE2.out (Below.then HBW.out hb2 (Nat.le_refl _)))
          clear HX hb2
          go_wp2
          go_ret2
          exact HF.out
        · have HX := Lib.hid (HRO.out (by first | rfl | trivial) (by omega))
          clear HDS HRS HRO
          go_wp2_with fail
          refine HX.out.mono ?_
          rintro e w2 ⟨v2, rfl, ho2, hb2⟩
          obtain ⟨A5, n5, c5, rfl, hr5⟩ := ho2.shape
          have hn5 : n5 ≤ 65536 := by have := hr5.len; omega
          have HR5 := Lib.hid hr5
          have HB2 := Lib.hid (Below.then HBW.out hb2 (Nat.le_refl _))
          have HOL2 := Lib.hid (HOL.out.below hb2)
          have HTX : Hid (w.heap.size ≤ w.heap.size) := Lib.hid (Nat.le_refl _)
          have HW2 : Hid (∀ W, Below w2.heap.size w2 W → Below wr.heap.size wr W) := Lib.hid (fun W hW => Below.then hb2 hW (Nat.le_refl _))
          clear ho2 hr5 hb2 HX
          have HDD := Lib.hid (decode_any A5 n5 c5 rr w2 HR5.out HSR.out (by omega))
          unfold EvE at HDD
          have HEV : Hid (evD rr = ⟨rX rr 0, rX rr 1, rX rr 2, rX rr 3, rX rr 4⟩) := Lib.hid rfl
          have HCH := Lib.hid (fun W (hW : Below w2.heap.size w2 W) => chain_any d A5 n5 c5 rr W ((HR5.out.go hW).row) (Small.fit HSR.out) (by omega) d0 d1)
          have hcb := chn_bd d rr
          unfold Num at HCH
          generalize dcE rr = de at *
          by_cases hde : de = 0
          · subst hde
            simp only [okV, if_true] at HDD
            generalize rX rr 0 = y0 at *
            generalize rX rr 1 = y1 at *
            generalize rX rr 2 = y2 at *
            generalize rX rr 3 = y3 at *
            generalize rX rr 4 = y4 at *
            clear HDB
            go_wp2_with fail
            refine HDD.out.mono ?_
            rintro e w3 ⟨rfl, hb3⟩
            have hb4 := hb3.alloc hb3.size (.cells #[.int .i64 y0, .int .i64 y1, .int .u64 y2, .int .u64 y3, .int .i64 y4] 27)
            have HB4 := Lib.hid hb4
            have HX4 := Lib.hid (EvB.new (w := w3) (p := y0) (o := y1) (h := y2) (a := y3) (e := y4))
            have HCK := Lib.hid (HCH.out _ hb4)
            clear hb3 hb4 HDD HCH
            go_wp2_with fail
            generalize w3.alloc (.cells #[.int .i64 y0, .int .i64 y1, .int .u64 y2, .int .u64 y3, .int .i64 y4] 27) = w4 at *
            generalize w3.heap.size = t3 at *
            obtain ⟨dx, hdx⟩ : ∃ dx, chn d rr = dx := ⟨_, rfl⟩
            rw [hdx] at HCK hcb HDC HDM
            obtain ⟨dx0, dx1⟩ := hcb
            refine HCK.out.mono ?_
            rintro e w5 ⟨rfl, hww⟩
            subst hww
            clear HCK hdx
            have HD0 : Hid (Below w4.heap.size w4 w4.drew) := Lib.hid (below_drewN (Below.refl _ w4) 1)
            have HAP := Lib.hid (appD_any (.slice none 0 0) [] dx w4.drew w4.drew.heap.size (OwnB.nil _ _) (Nat.le_refl _) dx0 dx1 (by simp))
            rw [List.nil_append] at HAP
            obtain ⟨A6, hsl, hcut⟩ := cut_hi A3 n3 c3 (kz + 8) bb (by omega) hcap3
            rw [show ((kz + 8 : Nat) : Int) = (kz : Int) + 8 by omega] at hsl
            have HW4 : Hid (∀ W, Below w4.heap.size w4 W → Below wr.heap.size wr W) := Lib.hid (fun W hW => HW2.out W (Below.then HB4.out hW (Nat.le_refl _)))
            have HSX : Hid (∀ (W : World) (A9 : Option Addr) (n9 c9 : Nat), Below w4.heap.size w4 W → Bts W W.heap.size A9 n9 c9 (low 8 dx) → Calls Try.prog 56 #[.slice A6 (kz + 8) c3, .slice A9 n9 c9] W fun e w' => e = .returned (.bool (decide (low 8 dx = (bb.drop kz).take 8))) ∧ w' = W) := Lib.hid (fun W A9 n9 c9 hW h9 => by
              have hn9 : n9 = 8 := by have := h9.len; rw [low_len] at this; omega
              subst hn9
              have h1 := suffix_any W (hcut W _ (HBT.out.below ((HW4.out W hW).mono HBW.out.size))) h9 (HSB.out.take _) (low_small _ _) (by omega)
              rw [show kz + 8 - 8 = kz by omega, List.drop_take, show kz + 8 - kz = 8 by omega] at h1
              rw [show decide (low 8 dx = (bb.drop kz).take 8) = decide ((bb.drop kz).take 8 = low 8 dx) from decide_eq_decide.2 eq_comm]
              exact h1)
            clear hcut
            by_cases heq : low 8 dx = (bb.drop kz).take 8
            · have HDM2 := Lib.hid (HDM.out (by first | rfl | trivial) (by omega) (by first | rfl | trivial) (by rw [Int.toNat_natCast]; exact heq))
              rw [decide_eq_true heq] at HSX
              clear HDC HDM heq
              go_wp2
              refine wp_region_hand 7 (fun W => Below w4.heap.size w4 W) (by kernel_rfl) (by kernel_rfl) ?_
              rw [show Array.replicate 7 false = #[false, false, false, false, false, false, false] from rfl]
              have hHeld := HD0.out
              refine held_take (i := 0) (d := 34) (v := .slice A3 n3 c3) rfl rfl (by kernel_rfl) (by kernel_rfl) (by kernel_rfl) (fun _ _ _ h => h) (by rfl) (fun W _ => run_move_is (.tmp 0) rfl rfl W) hHeld ?_
              simp only [Act.put, List.setIfInBounds_toArray, List.set_cons_zero, List.set_cons_succ]
              refine held_take (i := 1) (d := 35) (v := .int .i64 ((kz : Int) + 8)) rfl rfl (by kernel_rfl) (by kernel_rfl) (by kernel_rfl) (fun _ _ _ h => h) (by rfl) (fun W _ => run_move_is (.tmp 7) rfl rfl W) hHeld ?_
              simp only [Act.put, List.setIfInBounds_toArray, List.set_cons_zero, List.set_cons_succ]
              refine held_take (i := 2) (d := 36) (v := .slice A6 (kz + 8) c3) rfl rfl (by kernel_rfl) (by kernel_rfl) (by kernel_rfl) (fun _ _ _ h => h) (by rfl) (fun W _ => by have q := hsl W; go_simp) hHeld ?_
              simp only [Act.put, List.setIfInBounds_toArray, List.set_cons_zero, List.set_cons_succ]
              refine held_take (i := 3) (d := 37) (v := .int .u64 dx) rfl rfl (by kernel_rfl) (by kernel_rfl) (by kernel_rfl) (fun _ _ _ h => h) (by rfl) (fun W _ => run_move_is (.tmp 5) rfl rfl W) hHeld ?_
              simp only [Act.put, List.setIfInBounds_toArray, List.set_cons_zero, List.set_cons_succ]
              have HCL := Lib.hid (HAP.out)
              refine held_one (i := 4) (by kernel_rfl) ?_
              refine held_callX (d := 38) rfl rfl (by rfl) rfl (by kernel_rfl) Try.func57 (by kernel_rfl) HCL.out ?_
              rintro e z8 ⟨v8, rfl, ho8, hb8⟩
              obtain ⟨A8, n8, c8, rfl, hr8⟩ := ho8.shape
              have HD8 := Lib.hid (Below.then HD0.out hb8 (Nat.le_refl _))
              have HSY := Lib.hid (HSX.out z8 A8 n8 c8 HD8.out hr8)
              clear ho8 hr8 hb8
              refine ⟨_, rfl, ?_⟩
              clear HCL hHeld
              have hHeld := HD8.out
              refine ⟨hHeld, ?_⟩
              simp only [Act.put, List.setIfInBounds_toArray, List.set_cons_zero, List.set_cons_succ]
              have HCL := Lib.hid (HSY.out)
              refine held_one (i := 5) (by kernel_rfl) ?_
              refine held_callX (d := 39) rfl rfl (by rfl) rfl (by kernel_rfl) Try.func56 (by kernel_rfl) HCL.out ?_
              rintro e z9 ⟨rfl, hz9⟩
              have HD9 : Hid (Below w4.heap.size w4 z9) := Lib.hid (hz9 ▸ HD8.out)
              clear hz9 HD8 HSY
              refine ⟨_, rfl, ?_⟩
              clear HCL hHeld
              have hHeld := HD9.out
              refine ⟨hHeld, ?_⟩
              simp only [Act.put, List.setIfInBounds_toArray, List.set_cons_zero, List.set_cons_succ]
              refine held_take (i := 6) (d := 40) (v := .bool false) rfl rfl (by kernel_rfl) (by kernel_rfl) (by kernel_rfl) (fun _ _ _ h => h) (by rfl) (fun W _ => by go_simp) hHeld ?_
              simp only [Act.put, List.setIfInBounds_toArray, List.set_cons_zero, List.set_cons_succ]
              refine wpAnyH_done (by kernel_rfl) ?_ _
              clear hHeld
              have HX9 := Lib.hid (HX4.out.go HD9.out)
              have HW9 := Lib.hid (HW4.out _ HD9.out)
              have HO9 := Lib.hid (HOL2.out.below (Below.then HB4.out HD9.out (Nat.le_refl _)))
              obtain ⟨A7, hsl7, hcut7⟩ := cut_lo A3 n3 c3 (kz + 8) bb (by omega) hcap3
              rw [show ((kz + 8 : Nat) : Int) = (kz : Int) + 8 by omega] at hsl7
              have HC7 := Lib.hid hcut7
              have HNL : Hid (L.length = n4) := Lib.hid (by
                obtain ⟨A', n', c', e, hk⟩ := HOL.out.shape
                cases e
                exact hk.len)
              clear hcut7 HD0 HAP HSX hsl HOL HOL2 HX4 HW4 HB4
              go_wp2
              have HD1 := Lib.hid (below_drewN (Below.refl z9.heap.size z9) 1)
              have HXD := Lib.hid (HX9.out.go HD1.out)
              have HOD := Lib.hid ((HO9.out.below HD1.out).alloc (.cells #[.int .i64 y0, .int .i64 y1, .int .u64 y2, .int .u64 y3, .int .i64 y4] 27))
              have HKD := Lib.hid (Kws.one_ z9.drew ⟨y0, y1, y2, y3, y4⟩)
              have HWD := Lib.hid (HW9.out.trans (HD1.out.mono HW9.out.size))
              have HWE : Hid (Below wr.heap.size wr (z9.drew.alloc (.cells #[.int .i64 y0, .int .i64 y1, .int .u64 y2, .int .u64 y3, .int .i64 y4] 27))) := Lib.hid (HWD.out.alloc HWD.out.size _)
              refine wp_region_hand 9 (fun _ => True) (by kernel_rfl) (by kernel_rfl) ?_
              rw [show Array.replicate 9 false = #[false, false, false, false, false, false, false, false, false] from rfl]
              have hHeld := (trivial : True)
              refine held_take (i := 0) (d := 41) (v := .slice A4 n4 c4) rfl rfl (by kernel_rfl) (by kernel_rfl) (by kernel_rfl) (fun _ _ _ h => h) (by rfl) (fun W _ => run_move_is (.tmp 4) rfl rfl W) hHeld ?_
              simp only [Act.put, List.setIfInBounds_toArray, List.set_cons_zero, List.set_cons_succ]
              refine held_take (i := 4) (d := 45) (v := .slice A3 n3 c3) rfl rfl (by kernel_rfl) (by kernel_rfl) (by kernel_rfl) (fun _ _ _ h => h) (by rfl) (fun W _ => run_move_is (.tmp 0) rfl rfl W) hHeld ?_
              simp only [Act.put, List.setIfInBounds_toArray, List.set_cons_zero, List.set_cons_succ]
              refine held_take (i := 5) (d := 46) (v := .int .i64 ((kz : Int) + 8)) rfl rfl (by kernel_rfl) (by kernel_rfl) (by kernel_rfl) (fun _ _ _ h => h) (by rfl) (fun W _ => run_move_is (.tmp 7) rfl rfl W) hHeld ?_
              simp only [Act.put, List.setIfInBounds_toArray, List.set_cons_zero, List.set_cons_succ]
              refine held_take (i := 6) (d := 47) (v := .slice A7 (n3 - (kz + 8)) (c3 - (kz + 8))) rfl rfl (by kernel_rfl) (by kernel_rfl) (by kernel_rfl) (fun _ _ _ h => h) (by rfl) (fun W _ => by have q := hsl7 W; go_simp) hHeld ?_
              simp only [Act.put, List.setIfInBounds_toArray, List.set_cons_zero, List.set_cons_succ]
              refine held_one (i := 1) (by kernel_rfl) ?_
              refine held_make (w' := z9.drew) (d := 42) rfl rfl (by rfl) (v := .agg #[.int .i64 y0, .int .i64 y1, .int .u64 y2, .int .u64 y3, .int .i64 y4]) (by obtain ⟨q0, q1, q2, q3, q4⟩ := HX9.out.cells; go_simp) ⟨trivial, ?_⟩
              simp only [Act.put, List.setIfInBounds_toArray, List.set_cons_zero, List.set_cons_succ]
              refine held_one (i := 2) (by kernel_rfl) ?_
              refine held_make (w' := z9.drew.alloc (.cells #[.int .i64 y0, .int .i64 y1, .int .u64 y2, .int .u64 y3, .int .i64 y4] 27)) (d := 43) rfl rfl (by rfl) (v := .slice (some ⟨z9.drew.heap.size, 0, none⟩) 1 1) (by go_simp) ⟨trivial, ?_⟩
              simp only [Act.put, List.setIfInBounds_toArray, List.set_cons_zero, List.set_cons_succ]
              refine held_one (i := 3) (by kernel_rfl) ?_
              refine held_appK (d := 44) rfl rfl rfl (.tmp 41) (.tmp 43) 35 rfl Try.underlying35 HIE.out HZE.out rfl HZ1.out (by omega) HOD.out rfl HKD.out rfl (by have := HNL.out; omega) (Nat.le_trans HBW.out.size HWE.out.size) ?_
              intro v10 z10 ho10 hg10 he10
              obtain ⟨A10, n10, c10, rfl, hx10⟩ := ho10.shape
              have HO10 := Lib.hid ho10
              have HB10 : Hid (Below w.heap.size (z9.drew.alloc (.cells #[.int .i64 y0, .int .i64 y1, .int .u64 y2, .int .u64 y3, .int .i64 y4] 27)) z10) := Lib.hid ((Below.refl _ _).grown hg10 (Nat.le_trans HBW.out.size HWE.out.size) (fun g e => (HOD.out.ge e).1))
              clear ho10 hg10 he10 hx10
              refine ⟨trivial, ?_⟩
              simp only [Act.put, List.setIfInBounds_toArray, List.set_cons_zero, List.set_cons_succ]
              refine held_take (i := 7) (d := 4) (v := .slice A10 n10 c10) rfl rfl (by kernel_rfl) (by kernel_rfl) (by kernel_rfl) (fun _ _ _ h => h) (by rfl) (fun W _ => by go_simp) hHeld ?_
              simp only [Act.put, List.setIfInBounds_toArray, List.set_cons_zero, List.set_cons_succ]
              refine held_take (i := 8) (d := 0) (v := .slice A7 (n3 - (kz + 8)) (c3 - (kz + 8))) rfl rfl (by kernel_rfl) (by kernel_rfl) (by kernel_rfl) (fun _ _ _ h => h) (by rfl) (fun W _ => by go_simp) hHeld ?_
              simp only [Act.put, List.setIfInBounds_toArray, List.set_cons_zero, List.set_cons_succ]
              refine wpAnyH_done (by kernel_rfl) ?_ _
              clear hHeld
              have HF : Hid (∃ bb' L' f', n3 - (kz + 8) ≤ f' ∧ Bts z10 w.heap.size A7 (n3 - (kz + 8)) (c3 - (kz + 8)) bb' ∧ Small bb' ∧ OwnK ev5 27 z10 w.heap.size (.slice A10 n10 c10) L' ∧ dgE f' dx bb' = E0 ∧ L' ++ dgL f' dx bb' = LF ∧ Below w.heap.size w z10) := Lib.hid (by
                have hz10 : Below w.heap.size wr z10 := (HWE.out.mono HBW.out.size).trans HB10.out
                refine ⟨bb.drop (kz + 8), L ++ [⟨y0, y1, y2, y3, y4⟩], f - 1, by omega, (HC7.out _ _ HBT.out).below hz10, HSB.out.drop _, HO10.out, ?_, ?_, HBW.out.trans hz10⟩
                · rw [← HE.out, HDM2.out.1, Int.toNat_natCast]
                · rw [← HL.out, HDM2.out.2, Int.toNat_natCast, HEV.out]
                  simp)
              have hn10 : n10 = n4 + 1 := by
                have h1 := OwnK.num HO10.out
                have h2 := HNL.out
                rw [List.length_append] at h1
                simp only [List.length_cons, List.length_nil] at h1
                omega
              clear HO10 HB10 HX9 HW9 HO9 HD9 HC7 HDM2 HD1 HXD HOD HKD HWD HWE
              go_wp2
              go_roundw
              case rel => exact ⟨A7, n3 - (kz + 8), c3 - (kz + 8), rfl, by omega, by omega, by omega, A10, n10, c10, rfl, by omega, dx, rfl, dx0, dx1, HF⟩
              case measure => simp only []; omega
            · have HF0 := Lib.hid (show E0 = 21 by rw [← HE.out]; exact HDC.out (by first | rfl | trivial) (by omega) (by first | rfl | trivial) (by rw [Int.toNat_natCast]; exact heq))
              rw [decide_eq_false heq] at HSX
              clear HDC HDM heq
              go_wp2
              refine wp_region_hand 7 (fun W => Below w4.heap.size w4 W) (by kernel_rfl) (by kernel_rfl) ?_
              rw [show Array.replicate 7 false = #[false, false, false, false, false, false, false] from rfl]
              have hHeld := HD0.out
              refine held_take (i := 0) (d := 34) (v := .slice A3 n3 c3) rfl rfl (by kernel_rfl) (by kernel_rfl) (by kernel_rfl) (fun _ _ _ h => h) (by rfl) (fun W _ => run_move_is (.tmp 0) rfl rfl W) hHeld ?_
              simp only [Act.put, List.setIfInBounds_toArray, List.set_cons_zero, List.set_cons_succ]
              refine held_take (i := 1) (d := 35) (v := .int .i64 ((kz : Int) + 8)) rfl rfl (by kernel_rfl) (by kernel_rfl) (by kernel_rfl) (fun _ _ _ h => h) (by rfl) (fun W _ => run_move_is (.tmp 7) rfl rfl W) hHeld ?_
              simp only [Act.put, List.setIfInBounds_toArray, List.set_cons_zero, List.set_cons_succ]
              refine held_take (i := 2) (d := 36) (v := .slice A6 (kz + 8) c3) rfl rfl (by kernel_rfl) (by kernel_rfl) (by kernel_rfl) (fun _ _ _ h => h) (by rfl) (fun W _ => by have q := hsl W; go_simp) hHeld ?_
              simp only [Act.put, List.setIfInBounds_toArray, List.set_cons_zero, List.set_cons_succ]
              refine held_take (i := 3) (d := 37) (v := .int .u64 dx) rfl rfl (by kernel_rfl) (by kernel_rfl) (by kernel_rfl) (fun _ _ _ h => h) (by rfl) (fun W _ => run_move_is (.tmp 5) rfl rfl W) hHeld ?_
              simp only [Act.put, List.setIfInBounds_toArray, List.set_cons_zero, List.set_cons_succ]
              have HCL := Lib.hid (HAP.out)
              refine held_one (i := 4) (by kernel_rfl) ?_
              refine held_callX (d := 38) rfl rfl (by rfl) rfl (by kernel_rfl) Try.func57 (by kernel_rfl) HCL.out ?_
              rintro e z8 ⟨v8, rfl, ho8, hb8⟩
              obtain ⟨A8, n8, c8, rfl, hr8⟩ := ho8.shape
              have HD8 := Lib.hid (Below.then HD0.out hb8 (Nat.le_refl _))
              have HSY := Lib.hid (HSX.out z8 A8 n8 c8 HD8.out hr8)
              clear ho8 hr8 hb8
              refine ⟨_, rfl, ?_⟩
              clear HCL hHeld
              have hHeld := HD8.out
              refine ⟨hHeld, ?_⟩
              simp only [Act.put, List.setIfInBounds_toArray, List.set_cons_zero, List.set_cons_succ]
              have HCL := Lib.hid (HSY.out)
              refine held_one (i := 5) (by kernel_rfl) ?_
              refine held_callX (d := 39) rfl rfl (by rfl) rfl (by kernel_rfl) Try.func56 (by kernel_rfl) HCL.out ?_
              rintro e z9 ⟨rfl, hz9⟩
              have HD9 : Hid (Below w4.heap.size w4 z9) := Lib.hid (hz9 ▸ HD8.out)
              clear hz9 HD8 HSY
              refine ⟨_, rfl, ?_⟩
              clear HCL hHeld
              have hHeld := HD9.out
              refine ⟨hHeld, ?_⟩
              simp only [Act.put, List.setIfInBounds_toArray, List.set_cons_zero, List.set_cons_succ]
              refine held_take (i := 6) (d := 40) (v := .bool true) rfl rfl (by kernel_rfl) (by kernel_rfl) (by kernel_rfl) (fun _ _ _ h => h) (by rfl) (fun W _ => by go_simp) hHeld ?_
              simp only [Act.put, List.setIfInBounds_toArray, List.set_cons_zero, List.set_cons_succ]
              refine wpAnyH_done (by kernel_rfl) ?_ _
              clear hHeld
              have HF := Lib.hid (HER.out z9 21 (by omega) HF0.out (Below.then HBW.out (HW4.out _ HD9.out) HTX.out))
              clear HD9 HD0 HAP HSX hsl HX4 HW4 HB4
              go_wp2
              go_ret2
              exact HF.out
          · have hdb : (de != 0) = true := by simpa using hde
            have HNO : Hid (∀ x, okV de x = 0) := Lib.hid (fun x => if_neg hde)
            rw [HNO.out, HNO.out, HNO.out, HNO.out, HNO.out] at HDD
            have HF0 := Lib.hid (show E0 = de by rw [← HE.out]; exact HDB.out (by first | rfl | trivial) (by omega) hde)
            clear HDB HDC HDM HCH
            go_wp2_with fail
            refine HDD.out.mono ?_
            rintro e w3 ⟨rfl, hb3⟩
            have HF := Lib.hid (HER.out _ de hde HF0.out (Below.then HB2.out (hb3.alloc hb3.size (.cells #[.int .i64 0, .int .i64 0, .int .u64 0, .int .u64 0, .int .i64 0] 27)) HTX.out))
            clear hb3 HDD HNO
            go_wp2
            go_ret2
            exact HF.out
      · have herb : (er != 0) = true := by simpa using her
        have HX := Lib.hid (HRB.out her)
        have HE2 := Lib.hid (show E0 = er by rw [← HE.out]; exact HDE.out her)
        clear HDE HDS HDB HDC HDM HRI HRB HRS HRO
        go_wp2_with fail
        refine HX.out.mono ?_
        rintro e w2 ⟨rfl, hb2⟩
        have HF := Lib.hid (HER.out w2 er her HE2.out (Below.then HBW.out hb2 (Nat.le_refl _)))
        clear HX hb2
        go_wp2
        go_ret2
        exact HF.out
end Go.Proofs.Ytlgoiccekgjhnaa
