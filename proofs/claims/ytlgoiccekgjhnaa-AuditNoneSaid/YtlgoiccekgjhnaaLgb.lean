/-
  Contracts of the landed log's appendDigest and Bytes. Conditions: at most a thousand records, all of them valid.
-/
import Derived.Test.YtlgoiccekgjhnaaLga
import Derived.Test.YtlgoiccekgjhnaaAmf
namespace Go.Proofs.Ytlgoiccekgjhnaa
open Go.ChangeShapes Go.WideShapes Go.ChangeAt Go.RowKit Go.Maps
set_option linter.unusedVariables false
set_option linter.unusedSimpArgs false
set_option maxHeartbeats 4000000
set_option maxRecDepth 100000

theorem appD_any (v : Value) (xs : List Int) (x : Int) (w : World) (base : Nat) (h : OwnB w base v xs) (hb : base ≤ w.heap.size) (x0 : 0 ≤ x) (x1 : x < 18446744073709551616) (hx : xs.length ≤ 1000000) :
    Calls Try.prog 57 #[v, .int .u64 x] w fun e w' => ∃ v', e = .returned v' ∧ OwnB w' base v' (xs ++ low 8 x) ∧ Below base w w' := by
  obtain ⟨i0, hi, hz0, hz1, hz2⟩ := info_parts info8
  have HO := Lib.hid h
  have HX : Hid (0 ≤ x ∧ x < 18446744073709551616) := Lib.hid ⟨x0, x1⟩
  clear h x0 x1
  go_enter Try.func57, Try.ntmps57
  go_wp2
  go_loopw [0, 1, 5] (fun ov dv iv wr => ∃ k : Nat, k ≤ 8 ∧ iv = .int .i64 k ∧ ∃ y : Int, dv = .int .u64 y ∧ 0 ≤ y ∧ y < 18446744073709551616 ∧ Hid (y = x / 256 ^ k) ∧ Hid (OwnB wr base ov (xs ++ low k x) ∧ Below base w wr)) (fun _ _ iv _ => 8 - (intOf iv).toNat)
  case atStart => exact ⟨0, by omega, rfl, x, rfl, HX.out.1, HX.out.2, Lib.hid (by simp), Lib.hid ⟨by simpa [low] using HO.out, Below.refl _ _⟩⟩
  case round =>
    obtain ⟨k, hk, rfl, y, rfl, y0, y1, hy, hh⟩ := hrel
    have HR := Lib.hid hh.out.1
    have HBW := Lib.hid hh.out.2
    clear hh
    by_cases hlt : k < 8
    · have hlt1 : (k : Int) < 8 := by omega
      have m0 : 0 ≤ y % 256 := Int.emod_nonneg _ (by omega)
      have m1 : y % 256 < 256 := Int.emod_lt_of_pos _ (by omega)
      go_wp2_with (first
        | (at_builtin; go_must (refine wpList_appB _ rfl (.tmp 7) (.tmp 10) 52 rfl rfl Try.underlying52 hi hz0 hz1 hz2 (HR.out.alloc _) rfl (Bts.new wr [_] _ _ rfl (by unfold maxLen; simp)) rfl (by simp [low_len]; omega) (by have := HBW.out.size; simp; omega) ?_)
           intro v2 w2 ho2 hb2))
      have HF : Hid (OwnB w2 base v2 (xs ++ low (k + 1) x) ∧ Below base w w2) := Lib.hid (by
        rw [low_snoc, ← hy.out, ← List.append_assoc]
        exact ⟨ho2, (HBW.out.alloc (Nat.le_trans hb HBW.out.size) _).trans hb2⟩)
      have e1 : (0 : Int) ≤ y / 256 := Int.ediv_nonneg y0 (by omega)
      have e2 : y / 256 < 18446744073709551616 := by omega
      have HY : Hid (y / 256 = x / 256 ^ (k + 1)) := Lib.hid (by rw [hy.out, Int.pow_succ, Int.ediv_ediv_of_nonneg (Int.le_of_lt (Int.pow_pos (by omega)))])
      clear ho2 hb2 HR HBW
      exact ⟨⟨k + 1, by omega, by go_num, y / 256, rfl, e1, e2, HY, HF⟩, by simp [intOf]; omega⟩
    · obtain rfl : k = 8 := by omega
      go_wp2
      go_ret
      exact ⟨u0, rfl, HR.out, HBW.out⟩
theorem lgD_next {l : List Ev5} {k : Nat} {x : Ev5} (h : l[k]? = some x) : lgD start (l.take (k + 1)) = chn (lgD start (l.take k)) (eo x) := by
  rw [List.take_add_one, h, Option.toList_some, lgD_snoc]
theorem bytesL_any {w : World} {P : Option Addr} {cap last : Int} {L : List Ev5} {f g : Int → Nat} (H : Rlp w P cap L last f g) (hg : Goods L) (hn : L.length ≤ 1000) :
    Calls Try.prog 23 #[.pointer P] w (Made w (lgB start L)) := by
  obtain ⟨i0, hi, hz0, hz1, hz2⟩ := info_parts info8
  have HO := Lib.hid (orEmpty_any H)
  unfold OrE at HO
  have HN := Lib.hid (sum_any none 0 0 [] w (B := 0) Row.none_ (fun x hx => by cases hx) (by omega))
  rw [fnv_nil] at HN
  unfold Num at HN
  have HG := Lib.hid hg
  have HFN : Hid (∀ (v : Value) (W : World), OwnB W w.heap.size v (lgB start L) → Below w.heap.size w W → Made w (lgB start L) (.returned v) W) := Lib.hid (fun v W h1 h2 => ⟨v, rfl, h1, h2⟩)
  obtain ⟨st, hst⟩ : ∃ st, start = st := ⟨_, rfl⟩
  rw [hst] at HN
  have HSS := Lib.hid hst
  clear H hg hst
  go_enter Try.func23, Try.ntmps23
  go_wp2_with fail
  refine HN.out.mono ?_
  rintro e w0 ⟨rfl, hww⟩
  subst hww
  go_wp2_with fail
  refine HO.out.mono ?_
  rintro e w1 ⟨p, last', rfl, ⟨A, n, cp, mr, mm, N1, N2, hblk, hk, _, _⟩, _, hb1⟩
  have HB1 := Lib.hid hb1
  have HK := Lib.hid hk
  have hcapn := hk.cap
  have hsmn := hk.small
  unfold maxLen at hsmn
  have hlen := hk.len
  obtain ⟨c0, c1, c2, c3, c4⟩ := log_cells hblk
  clear HO HN hblk hk hb1
  go_wp2
  clear c0 c1 c2 c3 c4
  go_loopw [3, 4, 16] (fun ov dv iv wr => ∃ i : Nat, i ≤ n ∧ iv = .int .i64 i ∧ ∃ d : Int, dv = .int .u64 d ∧ Hid (d = lgD start (L.take i)) ∧ ∃ A4 n4 c4, ov = .slice A4 n4 c4 ∧ Hid (OwnB wr w1.heap.size (.slice A4 n4 c4) (lgB start (L.take i)) ∧ Below w1.heap.size w1 wr)) (fun _ _ iv _ => n - (intOf iv).toNat)
  case atStart => exact ⟨0, Nat.zero_le _, rfl, st, rfl, Lib.hid (by rw [List.take_zero, lgD_nil, HSS.out]), none, 0, 0, rfl, Lib.hid ⟨OwnB.nil _ _, Below.refl _ _⟩⟩
  case round =>
    obtain ⟨i, hi', rfl, d, rfl, hd, A4, n4, c4, rfl, hh⟩ := hrel
    have HO := Lib.hid hh.out.1
    have HBR := Lib.hid hh.out.2
    clear hh
    by_cases hin : i < n
    · have hi1 : (i : Int) < (n : Int) := by omega
      have hx : L[i]? = some (L[i]'(by omega)) := List.getElem?_eq_getElem (by omega)
      have HNX := Lib.hid (lgB_next hx)
      have HND := Lib.hid (lgD_next hx)
      obtain ⟨bb, ob, x, hx', rfl, hbb, g0, g1, g2, g3, g4⟩ := (HK.out.go HBR.out).ev_ hin
      obtain rfl : L[i]'(by omega) = x := by rw [hx] at hx'; exact Option.some.inj hx'
      have hgx := HG.out _ (List.mem_of_getElem? hx)
      have HLN : Hid ((lgB start (L.take (i + 1))).length ≤ 100000) := Lib.hid (by
        have h1 := (lgB_len (d := start) (HG.out.take (i + 1))).1
        have h2 := List.length_take (i := i + 1) (l := L)
        omega)
      generalize hxx : L[i]'(by omega) = x at *
      have hck : chkV x.p x.o x.e = 0 := hgx.1
      obtain ⟨dd0, dd1⟩ := lgD_bd (L.take i)
      rw [← hd.out] at dd0 dd1 HND
      have HSM : Hid (Fit .u8 (eo x)) := Lib.hid (Small.fit eo_small)
      have hel := hgx.len
      have HEO : Hid (eo x = encO x.p x.o x.h x.a x.e) := Lib.hid rfl
      have HW5 := Lib.hid hgx.2
      obtain ⟨xp, xo, xh, xa, xe⟩ := x
      simp only at g0 g1 g2 g3 g4 hck
      have HEN := Lib.hid (encode_any xp xo xh xa xe (wr.alloc (.cells #[.int .i64 xp, .int .i64 xo, .int .u64 xh, .int .u64 xa, .int .i64 xe] 27)) HW5.out.1 HW5.out.2)
      unfold EncE at HEN
      rw [hck] at HEN
      simp only at HEO
      rw [← HEO.out] at HEN
      generalize eo ⟨xp, xo, xh, xa, xe⟩ = ex at *
      have hb2 : Below wr.heap.size wr (wr.alloc (.cells #[.int .i64 xp, .int .i64 xo, .int .u64 xh, .int .u64 xa, .int .i64 xe] 27)) := (Below.refl _ _).alloc (Nat.le_refl _) _
      have HB2 := Lib.hid hb2
      have hx2 := EvB.new (w := wr) (p := xp) (o := xo) (h := xh) (a := xa) (e := xe)
      have HX2 := Lib.hid hx2
      obtain ⟨q0, q1, q2, q3, q4⟩ := hx2.cells
      clear hx hx' hxx hgx hck hb2 hx2 HW5 hbb
      go_wp2_with fail
      generalize wr.alloc (.cells #[.int .i64 xp, .int .i64 xo, .int .u64 xh, .int .u64 xa, .int .i64 xe] 27) = w2 at *
      refine HEN.out.mono ?_
      rintro e w3 ⟨v3, rfl, ho3, hb3⟩
      obtain ⟨A3, n3, c3, rfl, hr3⟩ := ho3.shape
      have hn3 : n3 ≤ 50 := by have := hr3.len; omega
      have HR3 := Lib.hid hr3
      have HB3 := Lib.hid (Below.then HB2.out hb3 (Nat.le_refl _))
      have HCH := Lib.hid (chain_any d A3 n3 c3 ex w3 hr3.row HSM.out (by omega) dd0 dd1)
      unfold Num at HCH
      generalize hch : chn d ex = ch at *
      clear ho3 hr3 hb3 HEN HB2 HX2 q0 q1 q2 q3 q4 g0 g1 g2 g3 g4
      go_wp2_with fail
      refine HCH.out.mono ?_
      rintro e w4 ⟨rfl, hww⟩
      subst hww
      have HPB := Lib.hid (putBytes_any none 0 0 [] A3 n3 c3 ex w3 Bts.none_ HR3.out (by omega) (by omega))
      rw [List.nil_append] at HPB
      unfold Made at HPB
      clear HCH
      go_wp2_with fail
      refine HPB.out.mono ?_
      rintro e w5 ⟨v5, rfl, ho5, hb5⟩
      obtain ⟨A5, n5, c5, rfl, hr5⟩ := ho5.shape
      have hn5 : n5 ≤ 60 := by have h1 := hr5.len; have h2 := encB_len (s := ex) (by omega); omega
      have HR5 := Lib.hid hr5
      have HB5 := Lib.hid (Below.then HB3.out hb5 (Nat.le_refl _))
      have HO5 := Lib.hid (HO.out.below HB5.out)
      have hwz : w1.heap.size ≤ w5.heap.size := Nat.le_trans HBR.out.size HB5.out.size
      clear ho5 hr5 hb5 HPB HR3 HB3
      go_wp2_with (first
        | (at_builtin; go_must (refine wpList_appB _ rfl (.tmp 28) (.tmp 30) 52 rfl rfl Try.underlying52 hi hz0 hz1 hz2 HO5.out rfl HR5.out rfl (by have h1 := HLN.out; rw [HNX.out, List.length_append, List.length_append] at h1; omega) hwz ?_)
           intro v6 w6 ho6 hb6)
        | fail)
      have hwz6 : w1.heap.size ≤ w6.heap.size := Nat.le_trans hwz hb6.size
      have HB6 : Hid (Below w1.heap.size w5 w6) := Lib.hid hb6
      have HAD := Lib.hid (appD_any v6 _ ch w6 w1.heap.size ho6 hwz6 (by rw [← hch]; exact (chn_bd _ _).1) (by rw [← hch]; exact (chn_bd _ _).2) (by have h1 := HLN.out; rw [HNX.out, List.length_append, List.length_append] at h1; rw [List.length_append]; omega))
      clear ho6 hb6 HO5 HR5
      refine HAD.out.mono ?_
      rintro e w7 ⟨v7, rfl, ho7, hb7⟩
      obtain ⟨A7, n7, c7, rfl, hr7⟩ := ho7.shape
      have HF : Hid (OwnB w7 w1.heap.size (.slice A7 n7 c7) (lgB start (L.take (i + 1))) ∧ Below w1.heap.size w1 w7) := Lib.hid (by
        rw [HNX.out, HND.out]
        exact ⟨ho7, HBR.out.trans ((HB5.out.mono HBR.out.size).trans (HB6.out.trans hb7))⟩)
      clear ho7 hb7 hr7 HAD HB6 HB5 HNX
      go_wp2
      go_roundw
      case rel => exact ⟨i + 1, by omega, by go_num, ch, rfl, Lib.hid HND.out.symm, A7, n7, c7, rfl, HF⟩
      case measure => simp [intOf]; omega
    · obtain rfl : i = n := by omega
      have hd' : ¬ (i : Int) < (i : Int) := by omega
      have HF : Hid (Made w (lgB start L) (.returned (.slice A4 n4 c4)) wr) := Lib.hid (HFN.out _ _ (by
        have h1 := HO.out
        rw [List.take_of_length_le (by omega)] at h1
        exact h1.down HB1.out.size) (Below.then HB1.out HBR.out (Nat.le_refl _)))
      go_wp2
      go_ret
      exact HF.out
end Go.Proofs.Ytlgoiccekgjhnaa
