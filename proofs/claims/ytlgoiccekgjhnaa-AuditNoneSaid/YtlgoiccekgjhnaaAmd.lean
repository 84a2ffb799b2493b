/-
  Contract of the model's DecodeLog: what it returns is what the plain functions of the text Alp say. Conditions: the bytes are bytes, at most a hundred thousand.
-/
import Derived.Test.YtlgoiccekgjhnaaAmf
import Derived.Test.YtlgoiccekgjhnaaWgb
import Derived.Test.YtlgoiccekgjhnaaSlx
namespace Go.Proofs.Ytlgoiccekgjhnaa
open Go.ChangeShapes Go.WideShapes Go.ChangeAt Go.RowKit
set_option linter.unusedVariables false
set_option linter.unusedSimpArgs false
set_option maxHeartbeats 8000000
set_option maxRecDepth 100000

theorem rb_in {l : List Int} (hs : Small l) (h : rbE l = 0) : 1 ≤ rbK l ∧ rbK l ≤ l.length ∧ Small (rbS l) ∧ (rbS l).length ≤ 65536 := by
  have h0 : rdE l = 0 := by
    by_cases h1 : rdE l = 0
    · exact h1
    · have := (rb_err rfl h1).1
      omega
  obtain ⟨a, b, c, d, e⟩ := rd_bd hs
  have h2 : rdX l ≤ 65536 := by
    by_cases h2 : rdX l ≤ 65536
    · exact h2
    · have := (rb_big h0 (by omega)).1
      omega
  have h3 : rdX l ≤ (l.length : Int) - rdK l := by
    by_cases h3 : rdX l ≤ (l.length : Int) - rdK l
    · exact h3
    · have := (rb_cut h0 h2 (by omega)).1
      omega
  obtain ⟨_, g2, g3⟩ := rb_ok h0 h2 h3
  have hk : rdK l = (top l : Int) + 1 := by unfold rdK; rw [if_pos h0]
  refine ⟨by omega, by omega, ?_, ?_⟩
  · rw [g2]
    exact (hs.drop _).take _
  · rw [g2, List.length_take]
    omega
/-- What DecodeLog returns. -/
def DlE (w : World) (b : List Int) (e : Ending) (w' : World) : Prop := ∃ v, e = .returned (.tuple #[v, .int .i64 (lgE b)]) ∧ OwnK ev5 27 w' w.heap.size v (lgL b) ∧ Below w.heap.size w w'
theorem decodeLogR_any (A : Option Addr) (n c : Nat) (b : List Int) (w : World) (h : Bts w w.heap.size A n c b) (hs : Small b) (hn : n ≤ 100000) :
    Calls Try.prog 33 #[.slice A n c] w (DlE w b) := by
  obtain ⟨ie, hie, hz0, hz1, hz2⟩ := info_parts infoE
  have HN := Lib.hid (sumR_any none 0 0 [] w (B := 0) Row.none_ (fun x hx => by cases hx) (by omega))
  rw [fnv_nil] at HN
  have hblen := h.len
  have HH := Lib.hid h
  have HS := Lib.hid hs
  have hcap := h.cap
  have hsm := h.small
  unfold maxLen at hsm
  have HER : Hid (∀ (W : World) (E : Int), E ≠ 0 → lgE b = E → Below w.heap.size w W → DlE w b (.returned (.tuple #[.slice none 0 0, .int .i64 E])) W) := Lib.hid (fun W E h0 h1 h2 => ⟨_, by rw [h1], by
    have h3 : lgL b = [] := if_neg (by rw [h1]; exact h0)
    rw [h3]
    exact OwnK.nil _ _ _ _, h2⟩)
  have HOK : Hid (∀ (W : World) (v : Value), lgE b = 0 → OwnK ev5 27 W w.heap.size v (dgL b.length start b) → Below w.heap.size w W → DlE w b (.returned (.tuple #[v, .int .i64 0])) W) := Lib.hid (fun W v h1 h2 h3 => ⟨_, by rw [h1], by
    have h4 : lgL b = dgL b.length start b := if_pos h1
    rw [h4]
    exact h2, h3⟩)
  have HE0 : Hid (dgE b.length start b = lgE b) := Lib.hid rfl
  obtain ⟨LF, hLF⟩ : ∃ LF, dgL b.length start b = LF := ⟨_, rfl⟩
  rw [hLF] at HOK
  have HL0 := Lib.hid hLF
  clear hLF
  generalize lgE b = E0 at *
  unfold Num at HN
  have hst := start_bd
  have HST : Hid (start = start) := Lib.hid rfl
  obtain ⟨st, hst0⟩ : ∃ st, start = st := ⟨_, rfl⟩
  rw [hst0] at HN hst HE0
  clear h hs HST
  go_enter Try.func33, Try.ntmps33
  go_wp2_with fail
  refine HN.out.mono ?_
  rintro e w1 ⟨rfl, hww⟩
  subst hww
  clear HN
  go_wp2
  go_loopw [0, 4, 5] (fun bw ov dv wr => ∃ A3 n3 c3, bw = .slice A3 n3 c3 ∧ n3 ≤ c3 ∧ c3 ≤ 9223372036854775807 ∧ n3 ≤ n ∧ ∃ A4 n4 c4, ov = .slice A4 n4 c4 ∧ n4 + n3 ≤ n ∧ ∃ d : Int, dv = .int .u64 d ∧ 0 ≤ d ∧ d < 18446744073709551616 ∧ Hid (∃ bb L f, n3 ≤ f ∧ Bts wr w.heap.size A3 n3 c3 bb ∧ Small bb ∧ OwnK ev5 27 wr w.heap.size (.slice A4 n4 c4) L ∧ dgE f d bb = E0 ∧ L ++ dgL f d bb = LF ∧ Below w.heap.size w wr)) (fun bw _ _ _ => match bw with | .slice _ m _ => m | _ => 0)
  case atStart => exact ⟨A, n, c, rfl, hcap, hsm, Nat.le_refl _, none, 0, 0, rfl, by omega, st, rfl, hst.1, hst.2, Lib.hid ⟨b, [], b.length, by omega, HH.out, HS.out, OwnK.nil _ _ _ _, HE0.out, by rw [← hst0, List.nil_append]; exact HL0.out, Below.refl _ _⟩⟩
  case round =>
    obtain ⟨A3, n3, c3, rfl, hcap3, hsm3, hn3, A4, n4, c4, rfl, hn4, d, rfl, d0, d1, hh⟩ := hrel
    obtain ⟨bb, L, f, hf, hbt, hsb, hol, hE, hL, hbw⟩ := hh.out
    have HBT := Lib.hid hbt
    have HSB := Lib.hid hsb
    have HOL := Lib.hid hol
    have HE := Lib.hid hE
    have HL := Lib.hid hL
    have HBW := Lib.hid hbw
    have hlb := hbt.len
    clear hh hbt hsb hol hE hL hbw HE0 HL0
    by_cases hz : n3 = 0
    · have hb0 : bb.length = 0 := by omega
      obtain ⟨g1, g2⟩ := dg_nil (f := f) (d := d) hb0
      have HF := Lib.hid (HOK.out wr (.slice A4 n4 c4) (by rw [← HE.out, g1]) (by rw [← HL.out, g2, List.append_nil]; exact HOL.out) HBW.out)
      clear hb0 g1 g2 hn hn3 hcap3 hsm3 hf hn4
      subst hz
      go_wp2
      go_ret2
      exact HF.out
    · have hpos : 0 < n3 := by omega
      have HBB := Lib.hid (bytesR_any A3 n3 c3 bb wr (HBT.out.more HBW.out.size) HSB.out (by omega))
      unfold GotB at HBB
      have HRI := Lib.hid (fun h0 => rb_in HSB.out h0)
      have HDE := Lib.hid (fun h0 => dg_err (f := f) (d := d) (b := bb) (by omega) (by omega) h0)
      have HDS := Lib.hid (fun h0 h1 => dg_short (f := f) (d := d) (b := bb) (by omega) (by omega) h0 h1)
      have HDB := Lib.hid (fun h0 h1 h2 => dg_bad (f := f) (d := d) (b := bb) (by omega) (by omega) h0 h1 h2)
      have HDC := Lib.hid (fun h0 h1 h2 h3 => dg_chain (f := f) (d := d) (b := bb) (by omega) (by omega) h0 h1 h2 h3)
      have HDM := Lib.hid (fun h0 h1 h2 h3 => dg_more (f := f - 1) (d := d) (b := bb) (by omega) h0 h1 h2 h3)
      rw [show f - 1 + 1 = f by omega] at HDM
      generalize rbE bb = er at *
      generalize hkk : rbK bb = kk at *
      generalize rbS bb = rr at *
      clear hkk
      go_wp2_with fail
      refine HBB.out.mono ?_
      rintro e w2 ⟨v2, rfl, ho2, hb2⟩
      obtain ⟨A5, n5, c5, rfl, hr5⟩ := ho2.shape
      have HR5 := Lib.hid hr5
      have HB2 := Lib.hid (Below.then HBW.out hb2 (Nat.le_refl _))
      have HOL2 := Lib.hid (HOL.out.below hb2)
      have HTX : Hid (w.heap.size ≤ w.heap.size) := Lib.hid (Nat.le_refl _)
      have HW2 : Hid (∀ W, Below w2.heap.size w2 W → Below wr.heap.size wr W) := Lib.hid (fun W hW => Below.then hb2 hW (Nat.le_refl _))
      clear ho2 hr5 hb2 HBB
      by_cases her : er = 0
      · subst her
        obtain ⟨k0, k1, hsr, hlr⟩ := HRI.out (by first | rfl | trivial)
        have hn5 : n5 ≤ 65536 := by have := HR5.out.len; omega
        obtain ⟨kz, rfl⟩ : ∃ kz : Nat, kk = kz := ⟨kk.toNat, by omega⟩
        have hkn : kz ≤ n3 := by omega
        have HSR := Lib.hid hsr
        have e1 : IntKind.i64.wrap ((n3 : Int) - (kz : Int)) = (n3 : Int) - (kz : Int) := by rw [IntKind.wrap_i64]; omega
        clear HDE HRI hsr
        by_cases h8 : n3 - kz < 8
        · have h8i : (n3 : Int) - (kz : Int) < 8 := by omega
          have HF := Lib.hid (HER.out w2 2 (by omega) (by rw [← HE.out]; exact HDS.out (by first | rfl | trivial) (by omega)) HB2.out)
          clear HDS HDB HDC HDM
          go_wp2
          go_ret2
          exact HF.out
        · have h8i : 8 ≤ (n3 : Int) - (kz : Int) := by omega
          have HDD := Lib.hid (decodeR_any A5 n5 c5 rr w2 HR5.out HSR.out (by omega))
          unfold EvE at HDD
          have HEV : Hid (evD rr = ⟨rX rr 0, rX rr 1, rX rr 2, rX rr 3, rX rr 4⟩) := Lib.hid rfl
          have HCH := Lib.hid (fun W (hW : Below w2.heap.size w2 W) => chainR_any d A5 n5 c5 rr W ((HR5.out.go hW).row) HSR.out.fit (by omega))
          have hcb := chn_bd d rr
          unfold NumW at HCH
          generalize dcE rr = de at *
          by_cases hde : de = 0
          · subst hde
            simp only [okV, if_true] at HDD
            generalize rX rr 0 = y0 at *
            generalize rX rr 1 = y1 at *
            generalize rX rr 2 = y2 at *
            generalize rX rr 3 = y3 at *
            generalize rX rr 4 = y4 at *
            clear HDS HDB
            go_wp2_with fail
            refine HDD.out.mono ?_
            rintro e w3 ⟨rfl, hb3⟩
            have hb4 := hb3.alloc hb3.size (.cells #[.int .i64 y0, .int .i64 y1, .int .u64 y2, .int .u64 y3, .int .i64 y4] 27)
            have HB4 := Lib.hid hb4
            have HX4 := Lib.hid (EvB.new (w := w3) (p := y0) (o := y1) (h := y2) (a := y3) (e := y4))
            have HCK := Lib.hid (HCH.out _ hb4)
            clear hb3 hb4 HDD HCH
            go_wp2_with fail
            generalize w3.alloc (.cells #[.int .i64 y0, .int .i64 y1, .int .u64 y2, .int .u64 y3, .int .i64 y4] 27) = w4 at *
            generalize w3.heap.size = t3 at *
            obtain ⟨dx, hdx⟩ : ∃ dx, chn d rr = dx := ⟨_, rfl⟩
            rw [hdx] at HCK hcb HDC HDM
            obtain ⟨dx0, dx1⟩ := hcb
            refine HCK.out.mono ?_
            rintro e w5 ⟨rfl, hb5⟩
            have HB5 := Lib.hid (Below.then HB4.out hb5 (Nat.le_refl _))
            have HX5 := Lib.hid (HX4.out.go hb5)
            clear hb5 HCK HB4 HX4 hdx
            have HD0 : Hid (Below w5.heap.size w5 w5.drew) := Lib.hid (below_drewN (Below.refl _ w5) 1)
            have HE8 := Lib.hid (eight_any dx w5.drew)
            unfold MadeV at HE8
            obtain ⟨A6, hsl, hcut⟩ := cut_mid A3 n3 c3 kz (kz + 8) bb (by omega) (by omega) hcap3
            have e2 : IntKind.i64.wrap ((kz : Int) + 8) = (kz : Int) + 8 := by rw [IntKind.wrap_i64]; omega
            have e3 : kz + 8 - kz = 8 := by omega
            rw [e3] at hsl hcut
            rw [show ((kz + 8 : Nat) : Int) = (kz : Int) + 8 by omega] at hsl
            have HW5 : Hid (∀ W, Below w5.heap.size w5 W → Below wr.heap.size wr W) := Lib.hid (fun W hW => by
              have h1 := Below.then (Below.refl w2.heap.size w2 |>.trans HB5.out) hW (Nat.le_refl _)
              exact HW2.out W h1)
            have HT2 : Hid (∀ W, Below w5.heap.size w5 W → (convert 52 9 (.slice A6 8 (c3 - kz))).run Try.prog W = .ok (.string (strOfNums ((bb.drop kz).take 8))) W) := Lib.hid (fun W hW => bts_run (hcut W _ (HBT.out.below ((HW5.out W hW).mono HBW.out.size))))
            have HSC : Hid (Small ((bb.drop kz).take 8)) := Lib.hid ((HSB.out.drop _).take _)
            by_cases heq : low 8 dx = (bb.drop kz).take 8
            · have HDM2 := Lib.hid (HDM.out (by first | rfl | trivial) (by omega) (by first | rfl | trivial) (by rw [Int.toNat_natCast]; exact heq))
              rw [← heq] at HT2
              clear HDC HDM heq
              have HSP : Hid (strOfNums (low 8 dx) = strOfNums (low 8 dx)) := Lib.hid rfl
              obtain ⟨S, hS⟩ : ∃ S, strOfNums (low 8 dx) = S := ⟨_, rfl⟩
              rw [hS] at HT2
              have HSS := Lib.hid hS
              clear HSP hS hcut
              go_wp2
              refine wp_region_hand 10 (fun W => Below w5.heap.size w5 W) (by kernel_rfl) (by kernel_rfl) ?_
              rw [show Array.replicate 10 false = #[false, false, false, false, false, false, false, false, false, false] from rfl]
              have hHeld := HD0.out
              refine held_take (i := 0) (d := 40) (v := .int .u64 dx) rfl rfl (by kernel_rfl) (by kernel_rfl) (by kernel_rfl) (fun _ _ _ h => h) (by rfl) (fun W _ => run_move_is (.tmp 5) rfl rfl W) hHeld ?_
              simp only [Act.put, List.setIfInBounds_toArray, List.set_cons_zero, List.set_cons_succ]
              refine held_take (i := 3) (d := 43) (v := .slice A3 n3 c3) rfl rfl (by kernel_rfl) (by kernel_rfl) (by kernel_rfl) (fun _ _ _ h => h) (by rfl) (fun W _ => run_move_is (.tmp 0) rfl rfl W) hHeld ?_
              simp only [Act.put, List.setIfInBounds_toArray, List.set_cons_zero, List.set_cons_succ]
              refine held_take (i := 4) (d := 44) (v := .int .i64 (kz : Int)) rfl rfl (by kernel_rfl) (by kernel_rfl) (by kernel_rfl) (fun _ _ _ h => h) (by rfl) (fun W _ => run_move_is (.tmp 7) rfl rfl W) hHeld ?_
              simp only [Act.put, List.setIfInBounds_toArray, List.set_cons_zero, List.set_cons_succ]
              refine held_take (i := 5) (d := 45) (v := .int .i64 (kz : Int)) rfl rfl (by kernel_rfl) (by kernel_rfl) (by kernel_rfl) (fun _ _ _ h => h) (by rfl) (fun W _ => run_move_is (.tmp 7) rfl rfl W) hHeld ?_
              simp only [Act.put, List.setIfInBounds_toArray, List.set_cons_zero, List.set_cons_succ]
              refine held_take (i := 6) (d := 46) (v := .int .i64 ((kz : Int) + 8)) rfl rfl (by kernel_rfl) (by kernel_rfl) (by kernel_rfl) (fun _ _ _ h => h) (by rfl) (fun W _ => by go_simp) hHeld ?_
              simp only [Act.put, List.setIfInBounds_toArray, List.set_cons_zero, List.set_cons_succ]
              refine held_take (i := 7) (d := 47) (v := .slice A6 8 (c3 - kz)) rfl rfl (by kernel_rfl) (by kernel_rfl) (by kernel_rfl) (fun _ _ _ h => h) (by rfl) (fun W _ => by have q := hsl W; go_simp) hHeld ?_
              simp only [Act.put, List.setIfInBounds_toArray, List.set_cons_zero, List.set_cons_succ]
              refine held_take (i := 8) (d := 48) (v := .string S) rfl rfl (by kernel_rfl) (by kernel_rfl) (by kernel_rfl) (fun _ _ _ h => h) (by rfl) (fun W hW => by have q := HT2.out W hW; go_simp) hHeld ?_
              simp only [Act.put, List.setIfInBounds_toArray, List.set_cons_zero, List.set_cons_succ]
              have HCL := Lib.hid (HE8.out)
              refine held_one (i := 1) (by kernel_rfl) ?_
              refine held_callX (d := 41) rfl rfl (by rfl) rfl (by kernel_rfl) Try.func29 (by kernel_rfl) HCL.out ?_
              rintro e z9 ⟨v9, rfl, ho9, hb9⟩
              obtain ⟨A9, n9, c9, rfl, hr9⟩ := ho9.bts.shape
              have HR9 := Lib.hid hr9
              have HD9 := Lib.hid (Below.then HD0.out hb9 (Nat.le_refl _))
              clear ho9 hr9 hb9
              refine ⟨_, rfl, ?_⟩
              clear HCL hHeld
              have hHeld := HD9.out
              refine ⟨hHeld, ?_⟩
              simp only [Act.put, List.setIfInBounds_toArray, List.set_cons_zero, List.set_cons_succ]
              have hcv := bts_as HR9.out HSS
              refine held_one (i := 2) (by kernel_rfl) ?_
              refine held_make (w' := z9) (d := 42) rfl rfl (by rfl) (v := .string S) (by go_simp) ⟨hHeld, ?_⟩
              simp only [Act.put, List.setIfInBounds_toArray, List.set_cons_zero, List.set_cons_succ]
              clear hcv HR9
              refine held_take (i := 9) (d := 49) (v := .bool false) rfl rfl (by kernel_rfl) (by kernel_rfl) (by kernel_rfl) (fun _ _ _ h => h) (by rfl) (fun W _ => by go_simp) hHeld ?_
              simp only [Act.put, List.setIfInBounds_toArray, List.set_cons_zero, List.set_cons_succ]
              refine wpAnyH_done (by kernel_rfl) ?_ _
              clear hHeld
              have HB9 := Lib.hid (Below.then HB5.out HD9.out (Nat.le_refl _))
              have HX9 := Lib.hid (HX5.out.go HD9.out)
              have HW9 := Lib.hid (HW5.out _ HD9.out)
              have HO9 := Lib.hid (HOL2.out.below HB9.out)
              obtain ⟨q0, q1, q2, q3, q4⟩ := HX9.out.cells
              have hxl := HX9.out.lt
              obtain ⟨A7, hsl7, hcut7⟩ := cut_lo A3 n3 c3 (kz + 8) bb (by omega) hcap3
              rw [show ((kz + 8 : Nat) : Int) = (kz : Int) + 8 by omega] at hsl7
              have HC7 := Lib.hid hcut7
              have HN9 := Lib.hid (Kws.one_ z9 ⟨y0, y1, y2, y3, y4⟩)
              have HNL : Hid (L.length = n4) := Lib.hid (by
                obtain ⟨A', n', c', e, hk⟩ := HOL.out.shape
                cases e
                exact hk.len)
              clear hcut7 HD9 HD0 HE8 HT2 HSS HSC hsl HB5 HX5 HX9 HW5 HOL HOL2
              go_wp2_with (at_builtin; go_must (refine wpList_appK _ rfl (.tmp 50) (.tmp 52) 35 rfl Try.underlying35 hie hz0 rfl hz1 (by omega) (HO9.out.alloc _) rfl HN9.out rfl (by have := HNL.out; omega) (by have := HW9.out.size; have := HBW.out.size; simp; omega) ?_); intro v10 z10 ho10 hb10 hg10)
              have HF : Hid (∃ bb' L' f', n3 - (kz + 8) ≤ f' ∧ Bts z10 w.heap.size A7 (n3 - (kz + 8)) (c3 - (kz + 8)) bb' ∧ Small bb' ∧ OwnK ev5 27 z10 w.heap.size v10 L' ∧ dgE f' dx bb' = E0 ∧ L' ++ dgL f' dx bb' = LF ∧ Below w.heap.size w z10) := Lib.hid (by
                have hz10 : Below w.heap.size wr z10 := ((HW9.out.mono HBW.out.size).alloc (Nat.le_trans HBW.out.size HW9.out.size) _).trans hb10
                refine ⟨bb.drop (kz + 8), L ++ [⟨y0, y1, y2, y3, y4⟩], f - 1, by omega, (HC7.out _ _ HBT.out).below hz10, HSB.out.drop _, ho10, ?_, ?_, HBW.out.trans hz10⟩
                · rw [← HE.out, HDM2.out.1, Int.toNat_natCast]
                · rw [← HL.out, HDM2.out.2, Int.toNat_natCast, HEV.out]
                  simp)
              obtain ⟨A10, n10, c10, rfl, hk10⟩ := ho10.shape
              have hn10 : n10 = n4 + 1 := by
                have h1 := hk10.len
                have h2 := HNL.out
                rw [List.length_append] at h1
                simp only [List.length_cons, List.length_nil] at h1
                omega
              clear ho10 hb10 hg10 hk10 HN9 HO9 HC7 HDM2 q0 q1 q2 q3 q4
              go_wp2
              go_roundw
              case rel => exact ⟨A7, n3 - (kz + 8), c3 - (kz + 8), rfl, by omega, by omega, by omega, A10, n10, c10, rfl, by omega, dx, rfl, dx0, dx1, HF⟩
              case measure => simp only []; omega
            · have HF0 := Lib.hid (show E0 = 21 by rw [← HE.out]; exact HDC.out (by first | rfl | trivial) (by omega) (by first | rfl | trivial) (by rw [Int.toNat_natCast]; exact heq))
              have hne : ((strOfNums (low 8 dx)).toList == (strOfNums ((bb.drop kz).take 8)).toList) = false := by
                rw [beq_eq_false_iff_ne]
                intro h'
                exact heq (str_inj (low_small 8 dx) HSC.out (str_list h'))
              clear HDC HDM heq
              obtain ⟨S, hS⟩ : ∃ S, strOfNums (low 8 dx) = S := ⟨_, rfl⟩
              rw [hS] at hne
              have HSS := Lib.hid hS
              generalize strOfNums ((bb.drop kz).take 8) = S2 at *
              clear hS hcut
              go_wp2
              refine wp_region_hand 10 (fun W => Below w5.heap.size w5 W) (by kernel_rfl) (by kernel_rfl) ?_
              rw [show Array.replicate 10 false = #[false, false, false, false, false, false, false, false, false, false] from rfl]
              have hHeld := HD0.out
              refine held_take (i := 0) (d := 40) (v := .int .u64 dx) rfl rfl (by kernel_rfl) (by kernel_rfl) (by kernel_rfl) (fun _ _ _ h => h) (by rfl) (fun W _ => run_move_is (.tmp 5) rfl rfl W) hHeld ?_
              simp only [Act.put, List.setIfInBounds_toArray, List.set_cons_zero, List.set_cons_succ]
              refine held_take (i := 3) (d := 43) (v := .slice A3 n3 c3) rfl rfl (by kernel_rfl) (by kernel_rfl) (by kernel_rfl) (fun _ _ _ h => h) (by rfl) (fun W _ => run_move_is (.tmp 0) rfl rfl W) hHeld ?_
              simp only [Act.put, List.setIfInBounds_toArray, List.set_cons_zero, List.set_cons_succ]
              refine held_take (i := 4) (d := 44) (v := .int .i64 (kz : Int)) rfl rfl (by kernel_rfl) (by kernel_rfl) (by kernel_rfl) (fun _ _ _ h => h) (by rfl) (fun W _ => run_move_is (.tmp 7) rfl rfl W) hHeld ?_
              simp only [Act.put, List.setIfInBounds_toArray, List.set_cons_zero, List.set_cons_succ]
              refine held_take (i := 5) (d := 45) (v := .int .i64 (kz : Int)) rfl rfl (by kernel_rfl) (by kernel_rfl) (by kernel_rfl) (fun _ _ _ h => h) (by rfl) (fun W _ => run_move_is (.tmp 7) rfl rfl W) hHeld ?_
              simp only [Act.put, List.setIfInBounds_toArray, List.set_cons_zero, List.set_cons_succ]
              refine held_take (i := 6) (d := 46) (v := .int .i64 ((kz : Int) + 8)) rfl rfl (by kernel_rfl) (by kernel_rfl) (by kernel_rfl) (fun _ _ _ h => h) (by rfl) (fun W _ => by go_simp) hHeld ?_
              simp only [Act.put, List.setIfInBounds_toArray, List.set_cons_zero, List.set_cons_succ]
              refine held_take (i := 7) (d := 47) (v := .slice A6 8 (c3 - kz)) rfl rfl (by kernel_rfl) (by kernel_rfl) (by kernel_rfl) (fun _ _ _ h => h) (by rfl) (fun W _ => by have q := hsl W; go_simp) hHeld ?_
              simp only [Act.put, List.setIfInBounds_toArray, List.set_cons_zero, List.set_cons_succ]
              refine held_take (i := 8) (d := 48) (v := .string S2) rfl rfl (by kernel_rfl) (by kernel_rfl) (by kernel_rfl) (fun _ _ _ h => h) (by rfl) (fun W hW => by have q := HT2.out W hW; go_simp) hHeld ?_
              simp only [Act.put, List.setIfInBounds_toArray, List.set_cons_zero, List.set_cons_succ]
              have HCL := Lib.hid (HE8.out)
              refine held_one (i := 1) (by kernel_rfl) ?_
              refine held_callX (d := 41) rfl rfl (by rfl) rfl (by kernel_rfl) Try.func29 (by kernel_rfl) HCL.out ?_
              rintro e z9 ⟨v9, rfl, ho9, hb9⟩
              obtain ⟨A9, n9, c9, rfl, hr9⟩ := ho9.bts.shape
              have HR9 := Lib.hid hr9
              have HD9 := Lib.hid (Below.then HD0.out hb9 (Nat.le_refl _))
              clear ho9 hr9 hb9
              refine ⟨_, rfl, ?_⟩
              clear HCL hHeld
              have hHeld := HD9.out
              refine ⟨hHeld, ?_⟩
              simp only [Act.put, List.setIfInBounds_toArray, List.set_cons_zero, List.set_cons_succ]
              have hcv := bts_as HR9.out HSS
              refine held_one (i := 2) (by kernel_rfl) ?_
              refine held_make (w' := z9) (d := 42) rfl rfl (by rfl) (v := .string S) (by go_simp) ⟨hHeld, ?_⟩
              simp only [Act.put, List.setIfInBounds_toArray, List.set_cons_zero, List.set_cons_succ]
              clear hcv HR9
              refine held_take (i := 9) (d := 49) (v := .bool true) rfl rfl (by kernel_rfl) (by kernel_rfl) (by kernel_rfl) (fun _ _ _ h => h) (by rfl) (fun W _ => by go_simp) hHeld ?_
              simp only [Act.put, List.setIfInBounds_toArray, List.set_cons_zero, List.set_cons_succ]
              refine wpAnyH_done (by kernel_rfl) ?_ _
              clear hHeld
              have HF := Lib.hid (HER.out z9 21 (by omega) HF0.out (Below.then HB2.out (HD9.out |> fun h => Below.then HB5.out h (Nat.le_refl _)) HTX.out))
              clear HD9 HD0 HE8 HT2 HSS HSC hsl HB5 HX5
              go_wp2
              go_ret2
              exact HF.out
          · have hdb : (de != 0) = true := by simpa using hde
            have HNO : Hid (∀ x, okV de x = 0) := Lib.hid (fun x => if_neg hde)
            rw [HNO.out, HNO.out, HNO.out, HNO.out, HNO.out] at HDD
            have HF0 := Lib.hid (show E0 = de by rw [← HE.out]; exact HDB.out (by first | rfl | trivial) (by omega) hde)
            clear HDS HDB HDC HDM HCH
            go_wp2_with fail
            refine HDD.out.mono ?_
            rintro e w3 ⟨rfl, hb3⟩
            have HF := Lib.hid (HER.out _ de hde HF0.out (Below.then HB2.out (hb3.alloc hb3.size (.cells #[.int .i64 0, .int .i64 0, .int .u64 0, .int .u64 0, .int .i64 0] 27)) HTX.out))
            clear hb3 HDD HNO
            go_wp2
            go_ret2
            exact HF.out
      · have herb : (er != 0) = true := by simpa using her
        have HF := Lib.hid (HER.out w2 er her (by rw [← HE.out]; exact HDE.out her) HB2.out)
        clear HDE HDS HDB HDC HDM HRI
        go_wp2
        go_ret2
        exact HF.out
end Go.Proofs.Ytlgoiccekgjhnaa
