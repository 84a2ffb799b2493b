/-
  The law LayoutPrefix as a walk. No conditions.
-/
import Derived.Test.YthchcgpbmkmfnaaMde
import Derived.Test.YthchcgpbmkmfnaaAwk
namespace Go.Proofs.Ythchcgpbmkmfnaa
open Go.ChangeShapes Go.WideShapes Go.RowKit
set_option linter.unusedVariables false
set_option maxHeartbeats 8000000
set_option maxRecDepth 100000

theorem OwnE.made0 (t : TypeId) (w : World) : OwnE t (w.alloc (.cells #[] t)) w.heap.size (.slice (some ⟨w.heap.size, 0, none⟩) 0 0) [] := ⟨World.ownsRow_made w #[] 0 (Nat.le_refl _) (Nat.zero_le _) rfl, Fits.nil⟩
theorem plV_pre {l m : List (Int × Int)} {j : Nat} (hj : j < l.length) (h1 : plE 0 l j = 0) (h2 : plE 0 (l ++ m) j = 0) : plV 0 (l ++ m) j = plV 0 l j := by
  unfold plV
  rw [if_pos h1, if_pos h2, if_neg (by omega), if_neg (by omega), Int.toNat_natCast, plc_app, List.getD_eq_getElem?_getD, List.getD_eq_getElem?_getD, List.getElem?_append_left (by rw [plc_len]; exact hj)]
theorem mst_ge : ∀ {l : List (Int × Int)} {a : Int}, a ≤ mst l a
  | [], _ => Int.le_refl _
  | f :: l, a => by
    have := mst_ge (l := l) (a := max a (aln f))
    simp only [mst]
    omega
theorem up_mono {x y k k' : Int} (hx : 0 ≤ x) (hxy : x ≤ y) (hk : k = 1 ∨ k = 2 ∨ k = 4 ∨ k = 8) (hk' : k' = 1 ∨ k' = 2 ∨ k' = 4 ∨ k' = 8) (hkk : k ≤ k') : upk x k ≤ upk y k' := by
  unfold upk
  rcases hk with rfl | rfl | rfl | rfl <;> rcases hk' with rfl | rfl | rfl | rfl <;> omega
theorem szc_pre {l : List (Int × Int)} {f : Int × Int} (hok : ∀ g ∈ l ++ [f], errF g = 0 ∧ g.2 ≤ 9) : szc 0 l ≤ szc 0 (l ++ [f]) := by
  unfold szc
  rw [if_neg (by omega), if_neg (by omega)]
  have h1 := fin_small (l := l) (a := 0) (fun g hg => hok g (by simp [hg])) (by omega)
  have h2 : fin_ l 0 ≤ fin_ (l ++ [f]) 0 := by
    rw [fin_app]
    exact (fin_small (fun g hg => hok g (by simp at hg; simp [hg])) (by omega)).1
  refine up_mono h1.1 h2 (mst_is (by omega)) (mst_is (by omega)) ?_
  rw [mst_app]
  exact mst_ge
theorem layoutPrefix_walk (a0 : Option Addr) (len0 cap0 : Nat) (z0 : List Int) (a1 : Option Addr) (len1 cap1 : Nat) (z1 : List Int) (w : World) (w0 : IsRow .u16 w a0 len0 cap0 z0) (w1 : IsRow .u16 w a1 len1 cap1 z1) :
    Calls Try.prog 7 #[.slice a0 len0 cap0, .slice a1 len1 cap1] w fun e w' => e = .returned (.bool true) ∧ Below w.heap.size w w' := by
  obtain ⟨hrow, hfit⟩ := w0.row
  obtain ⟨hrow1, hfit1⟩ := w1.row
  obtain ⟨i0, hi, hz0, hz1, hz2⟩ := info_parts infoFd
  have HI := Lib.hid hi
  have HZ := Lib.hid hz0
  generalize z0.take len0 = L at *
  generalize z1.take len1 = L1 at *
  have HOF := Lib.hid (of_any a0 len0 cap0 L 30 w hrow (by omega))
  have HOF1 := Lib.hid (fun W (hW : Below w.heap.size w W) => of_any a1 len1 cap1 L1 4 W (hrow1.go hW) (by omega))
  have HFT := Lib.hid (hfit.take 30)
  have HFT1 := Lib.hid (hfit1.take 4)
  generalize L.take 30 = T at *
  generalize L1.take 4 = T1 at *
  obtain ⟨hok, hnl⟩ := typ_ok T 0
  have hfo := fldV_ok (L := T1) 0
  have HTY := Lib.hid (fun b W (hW : TS W b T 0) => type_any b 0 T W hW HFT.out (by omega))
  have HFD := Lib.hid (fun b W (hW : TS W b T1 0) => field_any b 0 T1 W hW HFT1.out (by omega))
  obtain ⟨⟨n, l⟩, htv⟩ : ∃ p, typV T 0 = p := ⟨_, rfl⟩
  obtain ⟨⟨u, v⟩, hfv⟩ : ∃ p, fldV T1 0 = p := ⟨_, rfl⟩
  rw [htv] at HTY hok hnl
  rw [hfv] at HFD hfo
  simp only at hok hnl HFD
  clear w0 w1 hrow hfit hrow1 hfit1 htv hfv hi hz0
  go_enter Try.func7, Try.ntmps7
  go_wp2_with fail
  refine HOF.out.mono ?_
  rintro e w1 ⟨b, rfl, hts, hge, hb1⟩
  have HTS := Lib.hid hts
  have HB1 := Lib.hid hb1
  clear hts hb1 HOF
  go_wp2_with fail
  refine (HTY.out b w1 HTS.out).mono ?_
  rintro e w2 ⟨A, m, c, rfl, hx, hts2, ho⟩
  have hx : Exs w2 w2.heap.size A m c l := hx
  have hml : m = l.length := hx.len.symm
  have hb2 := HB1.out.trans (ho.below hge HB1.out.size)
  have hb3 := (Below.refl w2.heap.size w2).alloc (Nat.le_refl _) (.cells #[.int .i64 n, .slice A m c] 24)
  have HT3 := Lib.hid (TyB.new (w := w2) (n := n) (A := A) (m := m) (c := c))
  have HX3 := Lib.hid (hx.go hb3)
  have HB3 := Lib.hid (Below.then hb2 hb3 (Nat.le_refl _))
  have hcap := hx.cap
  have hsm := hx.small
  unfold maxLen at hsm
  clear hx hts2 ho hb2 hb3 HTS HB1 HTY
  by_cases hn : 0 < n
  · have d1 : decide (0 < n) = true := decide_eq_true hn
    clear hml
    go_wp2_with fail
    refine (awake8_any lc _).mono ?_
    rintro e w4 ⟨rfl, hb⟩
    have HB4 := Lib.hid (Below.then HB3.out hb (Nat.le_refl _))
    clear hb
    go_wp2
    go_ret
    exact ⟨rfl, HB4.out⟩
  obtain rfl : n = 0 := by omega
  have hll : 0 < l.length ∧ l.length ≤ 4 := by omega
  have hok2 : ∀ g ∈ l ++ [(u, v)], errF g = 0 ∧ g.2 ≤ 9 := fun g hg => by
    rcases List.mem_append.1 hg with h | h
    · exact hok g h
    · simp at h; subst h; exact hfo
  obtain ⟨k1, k2, k3, k4, k5, k6, k7, k8, k9, k10⟩ := made_places (n := 0) hok (.inr ⟨rfl, by omega, by omega⟩)
  obtain ⟨j1, j2, j3, j4, j5, j6, j7, j8, j9, j10⟩ := made_places (n := 0) hok2 (.inr ⟨rfl, by simp, by simp; omega⟩)
  have hss : szt 0 l ≤ szt 0 (l ++ [(u, v)]) := by rw [k3, j3]; exact szc_pre hok2
  have hc2 : cnt 0 (l ++ [(u, v)]) = (l.length : Int) + 1 := by rw [j2]; unfold ctc; rw [if_neg (by omega)]; simp
  have HPP : Hid (∀ j : Nat, j < l.length → ∃ x y z, (plE 0 l j = 0 ∧ plV 0 l j = (x, y, z)) ∧ (plE 0 (l ++ [(u, v)]) j = 0 ∧ plV 0 (l ++ [(u, v)]) j = (x, y, z))) := Lib.hid (fun j hj => by
    obtain ⟨x, y, z, p1, p2, _⟩ := k10 j (by unfold ctc; rw [if_neg (by omega)]; omega)
    obtain ⟨x', y', z', q1, q2, _⟩ := j10 j (by unfold ctc; rw [if_neg (by omega)]; simp; omega)
    have := plV_pre hj p1 q1
    exact ⟨x, y, z, ⟨p1, p2⟩, q1, by rw [this, p2]⟩)
  have HSZ := Lib.hid (fun A m c W (h : Exs W W.heap.size A m c l) (hm : m ≤ 40) => lc.sz 0 A m c l W h hm)
  have HSZ2 := Lib.hid (fun A m c W (h : Exs W W.heap.size A m c (l ++ [(u, v)])) (hm : m ≤ 40) => lc.sz 0 A m c _ W h hm)
  have HCT2 := Lib.hid (fun A m c W (h : Exs W W.heap.size A m c (l ++ [(u, v)])) (hm : m ≤ 40) => lc.ct 0 A m c _ W h hm)
  rw [k1] at HSZ
  rw [j1] at HSZ2
  rw [hc2] at HCT2
  generalize szt 0 l = S at *
  generalize szt 0 (l ++ [(u, v)]) = S2 at *
  clear k1 k2 k3 k4 k5 k8 k9 k10 j1 j2 j3 j4 j5 j8 j9 j10 hc2 hn hnl
  obtain ⟨hu, hv⟩ : (-9223372036854775808 ≤ u ∧ u ≤ 9223372036854775807) ∧ (-9223372036854775808 ≤ v ∧ v ≤ 9223372036854775807) := by
    obtain ⟨u0, u1, hff1, hff2, _⟩ := errF_0 hfo.1
    have hv9 : v ≤ 9 := hfo.2
    simp only at u0 u1 hff1 hff2
    refine ⟨by omega, ?_⟩
    by_cases h6 : u = 6
    · have := hff1 h6; omega
    · have := hff2 h6; omega
  have HUV := Lib.hid (And.intro hu hv)
  have HML := Lib.hid hml
  have hm4 : m ≤ 4 := by omega
  have hm1 : 1 ≤ m := by omega
  clear hu hv hml hok hok2 hfo
  have hz3 : (w2.alloc (.cells #[.int .i64 0, .slice A m c] 24)).heap.size = w2.heap.size + 1 := by simp
  have HOM : Hid (OwnE 36 ((w2.alloc (.cells #[.int .i64 0, .slice A m c] 24)).alloc (.cells #[] 36)) (w2.heap.size + 1) (.slice (some ⟨w2.heap.size + 1, 0, none⟩) 0 0) []) := Lib.hid (by have := OwnE.made0 36 (w2.alloc (.cells #[.int .i64 0, .slice A m c] 24)); rwa [hz3] at this)
  have HXM := Lib.hid (HX3.out.alloc (.cells #[] 36))
  have HBM : Hid (Below (w2.heap.size + 1) (w2.alloc (.cells #[.int .i64 0, .slice A m c] 24)) ((w2.alloc (.cells #[.int .i64 0, .slice A m c] 24)).alloc (.cells #[] 36))) := Lib.hid ((Below.refl _ _).alloc (by rw [hz3]; exact Nat.le_refl _) _)
  have hw2 : w.heap.size ≤ w2.heap.size + 1 := by have := HB3.out.size; omega
  have t1 := HT3.out.cell1
  have t0 := HT3.out.cell0
  go_wp2_with (at_builtin; go_must (refine wpList_appE _ rfl (.tmp 23) (.tmp 25) 22 rfl Try.underlying22 HI.out HZ.out rfl hz1 (by omega) HOM.out rfl HXM.out rfl (by simp; omega) (by simp) ?_); intro v5 w5 ho5 hb5 hg5; obtain ⟨A5, n5, c5, rfl, hx5⟩ := ho5.shape; have HO5 : Hid (OwnE 36 w5 (w2.heap.size + 1) (.slice A5 n5 c5) l) := Lib.hid ho5; have HB5 := Lib.hid (HBM.out.trans hb5); clear hg5 hb5 ho5 hx5)
  have HT5 := Lib.hid (HT3.out.low HB5.out (Nat.lt_succ_self _))
  have HXL5 : Hid (Exs w5 (w2.heap.size + 1) A m c l) := Lib.hid (by have := HX3.out.below (by rw [hz3]; exact HB5.out); rwa [hz3] at this)
  have HX5 : Hid (Exs w5 w5.heap.size A m c l) := Lib.hid ((HX3.out.below (by rw [hz3]; exact HB5.out)).more (by rw [hz3]; have := HB5.out.size; simp at this; omega))
  have HBW5 := Lib.hid (HB3.out.trans (HB5.out.mono hw2))
  have hs5 : w2.heap.size + 1 ≤ w5.heap.size := by have := HB5.out.size; simp at this; omega
  clear HT3 HX3 HB3 HB5 HOM HXM HBM t0 t1 hz3
  refine (HOF1.out w5 HBW5.out).mono ?_
  rintro e w6 ⟨b6, rfl, hts, hge6, hb6⟩
  have HTS := Lib.hid hts
  have HB6 := Lib.hid hb6
  clear hts hb6 HOF1
  go_wp2_with fail
  refine (HFD.out b6 w6 HTS.out).mono ?_
  rintro e w7 ⟨rfl, hts7, ho7⟩
  have hb7 := HB6.out.trans (ho7.below hge6 HB6.out.size)
  have HO7 := Lib.hid (HO5.out.below hb7)
  have HT7 := Lib.hid (HT5.out.go hb7)
  have HXL7 := Lib.hid (HXL5.out.below (hb7.mono hs5))
  have HB7 := Lib.hid (Below.then HBW5.out hb7 (by omega))
  have hs7 : w2.heap.size + 1 ≤ w7.heap.size := Nat.le_trans hs5 hb7.size
  clear hts7 ho7 hb7 HTS HB6 HFD HO5 HT5 HX5 HXL5 HBW5 hs5
  go_wp2_with (at_builtin; go_must (refine wpList_appE _ rfl (.tmp 26) (.tmp 30) 22 rfl Try.underlying22 HI.out HZ.out rfl hz1 (by omega) (HO7.out.alloc _) rfl (Exs.new w7 [(u, v)] _ _ 1 rfl rfl (by unfold maxLen; omega) (fun x hx => by simp at hx; subst hx; exact HUV.out)) rfl (by omega) (by simp; omega) ?_); intro v8 w8 ho8 hb8 hg8; obtain ⟨A8, n8, c8, rfl, hx8⟩ := ho8.shape; have HO8 := Lib.hid ho8; have HX8 := Lib.hid hx8; have HB8 := Lib.hid (((Below.refl _ w7).alloc hs7 _).trans hb8); clear hg8 hb8 ho8 hx8)
  have hb9 := (Below.refl w8.heap.size w8).alloc (Nat.le_refl _) (.cells #[.int .i64 0, .slice A8 n8 c8] 24)
  have hn8 : n8 = l.length + 1 := by rw [← HX8.out.len]; simp
  have HT9 := Lib.hid ((HT7.out.low HB8.out (Nat.lt_succ_self _)).go hb9)
  have hxl : Exs w8 w8.heap.size A m c l := (HXL7.out.below HB8.out).more (Nat.le_trans hs7 HB8.out.size)
  have HX9 := Lib.hid (hxl.go hb9)
  have HU9 := Lib.hid (TyB.new (w := w8) (n := 0) (A := A8) (m := n8) (c := c8))
  have HXU9 := Lib.hid (HX8.out.go hb9)
  have HB9 := Lib.hid (Below.then (HB7.out.trans (HB8.out.mono hw2)) hb9 (by have := HB7.out.size; have := HB8.out.size; omega))
  clear hb9 hxl hx HT7 HXL7 HB7 HB8 HO8 HO7 HX8 hs7
  generalize w8.alloc (.cells #[.int .i64 0, .slice A8 n8 c8] 24) = w9 at *
  generalize w8.heap.size = ub at *
  generalize w2.heap.size = tb at *
  have hm40 : m ≤ 40 := by omega
  have hn40 : n8 ≤ 40 := by omega
  obtain rfl : m = l.length := HML.out
  clear hn8
  have HPL := Lib.hid (fun (i : Int) A m c W (h : Exs W W.heap.size A m c l) (hm : m ≤ 40) => lc.pl 0 i A m c l W h hm)
  have HPL2 := Lib.hid (fun (i : Int) A m c W (h : Exs W W.heap.size A m c (l ++ [(u, v)])) (hm : m ≤ 40) => lc.pl 0 i A m c _ W h hm)
  go_loopw [7] (fun iv wq => ∃ (j : Nat), j ≤ l.length ∧ iv = .int .i64 j ∧ Hid (TyB wq tb 0 A l.length c ∧ Exs wq wq.heap.size A l.length c l ∧ TyB wq ub 0 A8 n8 c8 ∧ Exs wq wq.heap.size A8 n8 c8 (l ++ [(u, v)]) ∧ Below w.heap.size w wq)) (fun iv _ => l.length - (intOf iv).toNat)
  case atStart => exact ⟨0, by omega, rfl, Lib.hid ⟨HT9.out, HX9.out, HU9.out, HXU9.out, HB9.out⟩⟩
  case round =>
    obtain ⟨j, hj, rfl, hh⟩ := hrel
    obtain ⟨ht, hx, hu, hxu, hb⟩ := hh.out
    have HT := Lib.hid ht
    have HX := Lib.hid hx
    have HU := Lib.hid hu
    have HXU := Lib.hid hxu
    have HB := Lib.hid hb
    have c0 := ht.cell0
    have c1 := ht.cell1
    clear hh ht hx hu hxu hb
    by_cases hjm : j < l.length
    · have hj1 : (j : Int) < (l.length : Int) := by omega
      obtain ⟨x, y, z, ⟨p1, p2⟩, q1, q2⟩ := HPP.out j hjm
      have HP := Lib.hid (HPL.out j A l.length c wr HX.out hm40)
      rw [p1, p2] at HP
      have HP2 := Lib.hid (fun W (hW : Exs W W.heap.size A8 n8 c8 (l ++ [(u, v)])) => HPL2.out j A8 n8 c8 W hW hn40)
      rw [q1, q2] at HP2
      unfold plv at HP HP2
      simp only at HP HP2
      clear p1 p2 q1 q2
      go_wp2_with fail
      refine HP.out.mono ?_
      rintro e w11 ⟨rfl, hb⟩
      have hb12 := hb.alloc hb.size (.cells #[.int .i64 x, .int .i64 y, .int .i64 z] 44)
      have HT12 := Lib.hid (HT.out.go hb12)
      have HX12 := Lib.hid (HX.out.go hb12)
      have HU12 := Lib.hid (HU.out.go hb12)
      have HXU12 := Lib.hid (HXU.out.go hb12)
      have HB12 := Lib.hid (Below.then HB.out hb12 (Nat.le_refl _))
      have HA12 := Lib.hid (PlB.new (w := w11) (x := x) (y := y) (z := z))
      clear hb hb12 HT HX HU HXU HB HP c0 c1
      have c0 := HU12.out.cell0
      have c1 := HU12.out.cell1
      go_wp2_with fail
      generalize w11.alloc (.cells #[.int .i64 x, .int .i64 y, .int .i64 z] 44) = w12 at *
      generalize w11.heap.size = pb at *
      refine (HP2.out w12 HXU12.out).mono ?_
      rintro e w13 ⟨rfl, hb⟩
      have hb14 := hb.alloc hb.size (.cells #[.int .i64 x, .int .i64 y, .int .i64 z] 44)
      have HT14 := Lib.hid (HT12.out.go hb14)
      have HX14 := Lib.hid (HX12.out.go hb14)
      have HU14 := Lib.hid (HU12.out.go hb14)
      have HXU14 := Lib.hid (HXU12.out.go hb14)
      have HB14 := Lib.hid (Below.then HB12.out hb14 (Nat.le_refl _))
      have HA14 := Lib.hid (HA12.out.go hb14)
      have HC14 := Lib.hid (PlB.new (w := w13) (x := x) (y := y) (z := z))
      clear hb hb14 HT12 HX12 HU12 HXU12 HB12 HA12 HP2 c0 c1
      have g0 := HA14.out.cell0
      have g1 := HA14.out.cell1
      have g2 := HA14.out.cell2
      have h0 := HC14.out.cell0
      have h1 := HC14.out.cell1
      have h2 := HC14.out.cell2
      go_wp2
      go_roundw
      case rel => exact ⟨j + 1, by omega, by go_num, Lib.hid ⟨HT14.out, HX14.out, HU14.out, HXU14.out, HB14.out⟩⟩
      case measure => simp [intOf]; omega
    · obtain rfl : j = l.length := by omega
      have hjj : ¬ (l.length : Int) < (l.length : Int) := by omega
      have hle : decide (S ≤ S2) = true := decide_eq_true hss
      go_wp2_with fail
      refine (HSZ.out A _ c wr HX.out hm40).mono ?_
      rintro e w11 ⟨rfl, hb⟩
      have HT11 := Lib.hid (HT.out.go hb)
      have HU11 := Lib.hid (HU.out.go hb)
      have HXU11 := Lib.hid (HXU.out.go hb)
      have HB11 := Lib.hid (Below.then HB.out hb (Nat.le_refl _))
      clear hb HT HX HU HXU HB c0 c1
      have c0 := HU11.out.cell0
      have c1 := HU11.out.cell1
      go_wp2_with fail
      refine (HSZ2.out A8 n8 c8 w11 HXU11.out hn40).mono ?_
      rintro e w12 ⟨rfl, hb⟩
      have HT12 := Lib.hid (HT11.out.go hb)
      have HU12 := Lib.hid (HU11.out.go hb)
      have HXU12 := Lib.hid (HXU11.out.go hb)
      have HB12 := Lib.hid (Below.then HB11.out hb (Nat.le_refl _))
      clear hb HT11 HU11 HXU11 HB11 c0 c1
      go_wp2_with fail
      have c0 : ∀ q : Later w12, q.val.cell? ⟨ub, 0, none⟩ = some (.int .i64 0) := fun q => later_old q HU12.out.cell0
      have c1 : ∀ q : Later w12, q.val.cell? ⟨ub, 1, none⟩ = some (.slice A8 n8 c8) := fun q => later_old q HU12.out.cell1
      have c2 : ∀ q : Later w12, q.val.cell? ⟨tb, 1, none⟩ = some (.slice A l.length c) := fun q => later_old q HT12.out.cell1
      have M1 := Lib.hid (fun q : Later w12 => awake8_any lc q.val)
      have M2 := Lib.hid (fun q : Later w12 => HCT2.out _ _ _ q.val (HXU12.out.go q.2) hn40)
      refine wp_region_later (by kernel_rfl) (by kernel_rfl) ?_
      repeat (go_big_quiet_step (first
        | (go_at_call 10; exact Calls.later (M1.out _))
        | (go_at_call 15; exact Calls.later (M2.out _))))
      refine wpQuiet_nil ?_
      rintro w13 ⟨⟨_, hq⟩, rfl⟩
      have HB13 := Lib.hid (Below.then HB12.out hq (Nat.le_refl _))
      clear hq M1 M2 c0 c1 c2
      go_wp2
      go_ret
      exact ⟨rfl, HB13.out⟩
end Go.Proofs.Ythchcgpbmkmfnaa
