/-
  Contracts of package layout as it landed: size, Check, Count, Size, Place. Conditions: at most forty fields.
-/
import Derived.Test.YtgddlpabgeeflaaLyb
import Derived.Test.YtgddlpabgeeflaaSam
import Derived.Test.YtgddlpabgeeflaaFlo
namespace Go.Proofs.Ytgddlpabgeeflaa
open Go.ChangeShapes Go.WideShapes Go.RowKit
set_option linter.unusedVariables false
set_option maxHeartbeats 8000000
set_option maxRecDepth 100000

/-- The size, where nothing is wrong. -/
def szc (n : Int) (l : List (Int × Int)) : Int := if 0 < n then wdt (l.getD 0 (0, 0)) * n else upk (fin_ l 0) (mst l 1)
theorem arr_up {f : Int × Int} (he : errF f = 0) (n : Int) : upk (wdt f * n) (mst [f] 1) = wdt f * n := by
  obtain ⟨h1, h2, h3, h4, h5⟩ := errF_0 he
  have hc : f.1 = 1 ∨ f.1 = 2 ∨ f.1 = 3 ∨ f.1 = 4 ∨ f.1 = 5 ∨ f.1 = 6 := by omega
  simp only [mst]
  unfold upk wdt aln
  rcases hc with h | h | h | h | h | h <;> simp [h, show max (1 : Int) 2 = 2 from rfl, show max (1 : Int) 4 = 4 from rfl, show max (1 : Int) 8 = 8 from rfl] <;> omega
theorem chk_is {n : Int} {l : List (Int × Int)} : chk n l = if ckc n l.length = 0 then (if fErr l = 0 then (if 65536 < szc n l then 4 else 0) else fErr l) else ckc n l.length := by
  by_cases h1 : n < 0
  · have h : ckc n l.length = 3 := if_pos h1
    rw [h, if_neg (by omega)]
    exact if_pos h1
  by_cases h2 : 65536 < n
  · have h : ckc n l.length = 4 := by unfold ckc; rw [if_neg h1, if_pos h2]
    rw [h, if_neg (by omega)]
    unfold chk
    rw [if_neg h1, if_pos h2]
  by_cases h3 : (n = 0 ∧ l.length = 0) ∨ (0 < n ∧ l.length ≠ 1)
  · have h : ckc n l.length = 3 := by unfold ckc; rw [if_neg h1, if_neg h2, if_pos h3]
    rw [h, if_neg (by omega)]
    unfold chk
    rw [if_neg h1, if_neg h2, if_pos h3]
  by_cases h4 : 32 < l.length
  · have h : ckc n l.length = 4 := by unfold ckc; rw [if_neg h1, if_neg h2, if_neg h3, if_pos h4]
    rw [h, if_neg (by omega)]
    unfold chk
    rw [if_neg h1, if_neg h2, if_neg h3, if_pos h4]
  have h : ckc n l.length = 0 := by unfold ckc; rw [if_neg h1, if_neg h2, if_neg h3, if_neg h4]
  rw [h, if_pos rfl]
  by_cases h5 : fErr l = 0
  · rw [chk_f h1 h2 h3 h4 h5, if_pos h5]
    unfold szc
    by_cases h6 : 0 < n
    · rw [if_pos h6, if_pos h6]
    · rw [if_neg h6, if_neg h6]
  · rw [chk_e h1 h2 h3 h4 h5, if_neg h5]
theorem ckc_0 {n : Int} {m : Nat} (h : ckc n m = 0) : 0 ≤ n ∧ n ≤ 65536 ∧ m ≤ 32 ∧ ((0 < n ∧ m = 1) ∨ (n = 0 ∧ 0 < m)) := by
  unfold ckc at h
  repeat' split at h
  all_goals omega
/-- What place answers for the last field or element. -/
theorem last_any {n : Int} {A : Option Addr} {m c B : Nat} {l : List (Int × Int)} {w : World} (h : Exs w B A m c l) (hB : B ≤ w.heap.size) (hok : ∀ f ∈ l, errF f = 0) (hk : ckc n m = 0) :
    ∃ x y z, 0 ≤ x + y ∧ x + y ≤ 4294967296 ∧ 0 ≤ x ∧ 0 ≤ y ∧ x ≤ 4294967296 ∧ y ≤ 4294967296 ∧ upk (x + y) (mst l 1) = szc n l ∧ ∀ W, Below B w W → B ≤ W.heap.size → Calls Try.prog 37 #[.agg #[.int .i64 n, .slice A m c], .int .i64 (ctc n m - 1)] W (Says W (plv (x, y, z))) := by
  obtain ⟨n0, n1, hm, hcase⟩ := ckc_0 hk
  rcases hcase with ⟨h0, rfl⟩ | ⟨rfl, h0⟩
  · obtain ⟨b, o, u, v, hu, hA, hb, g0, g1, _⟩ := h.at_ (k := 0) (by omega)
    have hget : l.getD 0 (0, 0) = (u, v) := by rw [List.getD_eq_getElem?_getD, hu]; rfl
    have hl : l = [(u, v)] := by
      have hlen := h.len
      cases l with
      | nil => simp at hlen
      | cons f l => cases l with
        | nil => simp at hu; rw [hu]
        | cons g l => simp at hlen
    have he := hok _ (List.mem_of_getElem? hu)
    obtain ⟨d0, d1⟩ := wdt_bd he
    obtain ⟨I, hI⟩ := Int.eq_ofNat_of_zero_le (by omega : 0 ≤ n - 1)
    have hnI : n = (I : Int) + 1 := by omega
    have hmul0 : 0 ≤ (I : Int) * wdt (u, v) := Int.mul_nonneg (by omega) (by omega)
    have hmul : (I : Int) * wdt (u, v) ≤ 65535 * 65536 := Int.mul_le_mul (by omega) d1 (by omega) (by omega)
    have hsum : (I : Int) * wdt (u, v) + wdt (u, v) = wdt (u, v) * n := by rw [hnI, Int.mul_add, Int.mul_one, Int.mul_comm]
    refine ⟨I * wdt (u, v), wdt (u, v), u, by omega, by omega, by omega, by omega, by omega, by omega, ?_, fun W hW hBW => ?_⟩
    · rw [hsum]
      subst hl
      rw [arr_up he]
      unfold szc
      rw [if_pos h0]
      rfl
    · have := place_arr n I A c l W ((h.below hW).more hBW) hok h0 n1 (by omega)
      rw [hget] at this
      unfold ctc
      rw [if_pos h0, hI]
      exact this
  · obtain ⟨I, rfl⟩ : ∃ I, m = I + 1 := ⟨m - 1, by omega⟩
    obtain ⟨b, o, u, v, hu, hA, hb, g0, g1, _⟩ := h.at_ (k := I) (by omega)
    have hlen := h.len
    have he := hok _ (List.mem_of_getElem? hu)
    obtain ⟨d0, d1⟩ := wdt_bd he
    have hp := plc_at hu 0
    have hf := fin_next hu 0
    rw [List.take_of_length_le (by omega)] at hf
    have hbd := fin_bd (l := l.take I) (a := 0) (fun f hf => hok f (List.mem_of_mem_take hf)) (by omega)
    have hll : (l.take I).length ≤ 32 := by rw [List.length_take]; omega
    have hup := upk_is (n := fin_ (l.take I) 0) (k := aln (u, v)) (by have := aln_is (u, v); omega)
    have ha := aln_is (u, v)
    refine ⟨upk (fin_ (l.take I) 0) (aln (u, v)), wdt (u, v), u, by omega, by omega, by omega, by omega, by omega, by omega, ?_, fun W hW hBW => ?_⟩
    · rw [← hf]
      unfold szc
      rw [if_neg (by omega)]
    · have := place_rec I A (I + 1) c l W ((h.below hW).more hBW) (by omega) hok (by omega)
      rw [List.getD_eq_getElem?_getD, hp] at this
      unfold ctc
      rw [if_neg (by omega), show ((I + 1 : Nat) : Int) - 1 = (I : Int) by omega]
      exact this
theorem size_any (n : Int) (A : Option Addr) (m c : Nat) (l : List (Int × Int)) (w : World) (h : Exs w w.heap.size A m c l) (hok : ∀ f ∈ l, errF f = 0) (hk : ckc n m = 0) :
    Calls Try.prog 31 #[.agg #[.int .i64 n, .slice A m c]] w (Says w (.int .i64 (szc n l))) := by
  have hb0 : Below w.heap.size w (w.alloc (.cells #[.int .i64 n, .slice A m c] 35)) := (Below.refl _ _).alloc (Nat.le_refl _) _
  have HB0 := Lib.hid hb0
  have HT0 := Lib.hid (TyB.new (w := w) (n := n) (A := A) (m := m) (c := c))
  have HX0 := Lib.hid h
  have hcap := h.cap
  have hsm := h.small
  have HLN := Lib.hid h.len
  obtain ⟨x, y, z, s0, s1, x0, y0, x1, y1, hsz, hpl⟩ := last_any h (Nat.le_refl _) hok hk
  obtain ⟨_, nn, hm, hcase⟩ := ckc_0 hk
  have hct : 0 < ctc n m ∧ ctc n m ≤ 65536 := by unfold ctc; split <;> omega
  have HSZ := Lib.hid hsz
  have HPL := Lib.hid hpl
  have HCT := Lib.hid (fun W => count_any n A m c W hcap hsm)
  generalize szc n l = sz at *
  generalize ctc n m = ct at *
  unfold maxLen at hsm
  have HOK := Lib.hid hok
  have c1 := HT0.out.cell1
  clear h hb0 hok hsz hpl hcase hk
  go_enter Try.func31, Try.ntmps31
  go_wp2_with fail
  generalize w.alloc (.cells #[.int .i64 n, .slice A m c] 35) = w1 at *
  have hts : w.heap.size < w1.heap.size := HT0.out.lt
  generalize htb : w.heap.size = tb at *
  go_loopw [3, 10] (fun gv iv wq => ∃ (j : Nat) (mo : Int), j ≤ m ∧ iv = .int .i64 j ∧ gv = .int .i64 mo ∧ (mo = 1 ∨ mo = 2 ∨ mo = 4 ∨ mo = 8) ∧ Hid (mo = mst (l.take j) 1 ∧ TyB wq tb n A m c ∧ Below tb w wq ∧ tb < wq.heap.size)) (fun _ iv _ => m - (intOf iv).toNat)
  case atStart => exact ⟨0, 1, by omega, rfl, rfl, by omega, Lib.hid ⟨rfl, HT0.out, HB0.out, hts⟩⟩
  case round =>
    obtain ⟨j, mo, hj, rfl, rfl, hmo, hh⟩ := hrel
    have HM := Lib.hid hh.out.1
    have HT := Lib.hid hh.out.2.1
    have HB := Lib.hid hh.out.2.2.1
    have hsw : tb < wr.heap.size := hh.out.2.2.2
    clear hh
    have c1 := HT.out.cell1
    by_cases hjm : j < m
    · have hj1 : (j : Int) < (m : Int) := by omega
      obtain ⟨b, o, u, v, hu, rfl, hb, g0, g1, _⟩ := (HX0.out.below HB.out).at_ hjm
      have he := HOK.out _ (List.mem_of_getElem? hu)
      obtain ⟨u0, u1, _⟩ := errF_0 he
      have ha := aln_is (u, v)
      have HA : Hid (∀ W, Calls Try.prog 36 #[.int .i64 u] W (Same W (.int .i64 (aln (u, v))))) := Lib.hid (fun W => by rw [← alg_aln ⟨u0, u1⟩]; exact alignment_any u W)
      have HMN := Lib.hid (mst_next hu 1)
      rw [← HM.out] at HMN
      generalize aln (u, v) = al at *
      have hn4 := FfB.new (w := wr) (u := u) (v := v)
      have hb4 := (Below.refl wr.heap.size wr).alloc (Nat.le_refl _) (.cells #[.int .i64 u, .int .i64 v] 45)
      have HT4 := Lib.hid (HT.out.go hb4)
      have HB4 := Lib.hid (Below.then HB.out hb4 (by have := HB.out.size; omega))
      have hs4 : tb < (wr.alloc (.cells #[.int .i64 u, .int .i64 v] 45)).heap.size := Nat.lt_of_lt_of_le hsw hb4.size
      have f0 := hn4.cell0
      clear hu hb he hb4 hn4
      go_wp2_with fail
      refine (HA.out _).mono ?_
      rintro e w5 ⟨rfl, rfl⟩
      have hmx : max mo al = 1 ∨ max mo al = 2 ∨ max mo al = 4 ∨ max mo al = 8 := by omega
      go_wp2
      go_roundw
      case rel => exact ⟨j + 1, max mo al, by omega, by go_num, by rw [show max mo al = if mo < al then al else mo by omega], hmx, Lib.hid ⟨HMN.out.symm, HT4.out, HB4.out, hs4⟩⟩
      case measure => simp [intOf]; omega
    · obtain rfl : j = m := by omega
      have hjj : ¬ (j : Int) < (j : Int) := by omega
      rw [List.take_of_length_le (by rw [HLN.out]; omega)] at HM
      have c0 := HT.out.cell0
      rw [← HM.out] at HSZ
      have HU := Lib.hid (fun W => roundUp_any (x + y) mo W ⟨by omega, by omega⟩ ⟨by omega, by omega⟩)
      rw [HSZ.out] at HU
      unfold plv at HPL
      simp only at HPL
      clear hjm
      go_wp2_with fail
      refine wp_region_box 5 6 _ #[.int .i64 0, .int .i64 0, .int .i64 0] 81 (by kernel_rfl) (by kernel_rfl) rfl (fun e w => by go_simp) ?_
      intro K hK hne
      have a0 : ∀ q : LaterK wr K, q.val.cell? ⟨tb, 0, none⟩ = some (.int .i64 n) := fun q => later_old q.m HT.out.cell0
      have a1 : ∀ q : LaterK wr K, q.val.cell? ⟨tb, 1, none⟩ = some (.slice A j c) := fun q => later_old q.m HT.out.cell1
      have M1 := Lib.hid (fun (q : LaterK wr K) => HCT.out q.val)
      have M2 := Lib.hid (fun (q : LaterK wr K) => HPL.out q.val (Below.then HB.out q.2.1 (by have := HB.out.size; omega)) (by have := q.2.1.size; omega))
      simp only [List.take_succ_cons, List.take_zero, List.drop_succ_cons, List.drop_zero]
      repeat (go_big_quiet_step (first
        | (go_at_call 38; exact Calls.laterK hK (M1.out _))
        | (go_at_call 37; exact Calls.laterK hK (M2.out _))))
      refine wpQuiet_nil ?_
      intro w7 b7 hq hb7 hc7
      have HP7 : PlB w7 b7 0 0 0 := hc7
      have hb8 := below_set3 (Below.then HB.out hq (by have := HB.out.size; omega)) (b := b7) (by omega) (.int .i64 x) (.int .i64 y) (.int .i64 z)
      have HB8 := Lib.hid hb8
      have hp8 := HP7.set x y z
      have q3 := HP7.fr 0
      have q4 := HP7.fr 1
      have q5 := HP7.fr 2
      have q0 := HP7.cell0
      have q1 := HP7.cell1
      have q2 := HP7.cell2
      have k0 := hp8.cell0
      have k1 := hp8.cell1
      have HK8 := Lib.hid (And.intro k0 k1)
      clear hq hb8 hp8 M1 M2 a0 a1 HP7 hc7 k0 k1
      simp only [Act.put, List.setIfInBounds_toArray, List.set_cons_succ, List.set_cons_zero]
      go_wp2_with fail
      refine (HU.out _).mono ?_
      rintro e w9 ⟨rfl, rfl⟩
      go_wp2
      go_ret
      exact ⟨rfl, by rw [htb]; exact HB8.out⟩
theorem check_any (n : Int) (A : Option Addr) (m c : Nat) (l : List (Int × Int)) (w : World) (h : Exs w w.heap.size A m c l) (hm : m ≤ 40) :
    Calls Try.prog 21 #[.agg #[.int .i64 n, .slice A m c]] w (Says w (.int .i64 (chk n l))) := by
  have hb0 : Below w.heap.size w (w.alloc (.cells #[.int .i64 n, .slice A m c] 35)) := (Below.refl _ _).alloc (Nat.le_refl _) _
  have HB0 := Lib.hid hb0
  have HT0 := Lib.hid (TyB.new (w := w) (n := n) (A := A) (m := m) (c := c))
  have HX0 := Lib.hid h
  have hcap := h.cap
  have hsm := h.small
  have HLN := Lib.hid h.len
  have hci := chk_is (n := n) (l := l)
  rw [h.len] at hci
  have HCI := Lib.hid hci
  have HCC := Lib.hid (fun W => checkCounts_any n A m c W hcap hsm)
  have HSZ := Lib.hid (fun hok hk W (hW : Exs W W.heap.size A m c l) => size_any n A m c l W hW hok hk)
  unfold maxLen at hsm
  have c1 := HT0.out.cell1
  have c0 := HT0.out.cell0
  generalize chk n l = k at *
  clear h hb0 hci
  go_enter Try.func21, Try.ntmps21
  go_wp2_with fail
  refine (HCC.out _).mono ?_
  generalize w.alloc (.cells #[.int .i64 n, .slice A m c] 35) = w1 at *
  have hts : w.heap.size < w1.heap.size := HT0.out.lt
  generalize htb : w.heap.size = tb at *
  rintro e w2 ⟨rfl, hb2⟩
  have HT2 := Lib.hid (HT0.out.go hb2)
  have HB2 := Lib.hid (Below.then HB0.out hb2 (by omega))
  have hs2 : tb < w2.heap.size := HT2.out.lt
  clear hb2 HT0 HB0 c0 c1
  generalize hck : ckc n m = ck at *
  by_cases hz : ck = 0
  · subst hz
    rw [if_pos rfl] at HCI
    have HK := Lib.hid hck
    clear hck
    have c1 := HT2.out.cell1
    go_wp2_with fail
    go_loopw [15] (fun iv wq => ∃ (j : Nat), j ≤ m ∧ iv = .int .i64 j ∧ Hid (fErr (l.take j) = 0 ∧ TyB wq tb n A m c ∧ Below tb w wq ∧ tb < wq.heap.size)) (fun iv _ => m - (intOf iv).toNat)
    case atStart => exact ⟨0, by omega, rfl, Lib.hid ⟨rfl, HT2.out, HB2.out, hs2⟩⟩
    case round =>
      obtain ⟨j, hj, rfl, hh⟩ := hrel
      have HJ := Lib.hid hh.out.1
      have HT := Lib.hid hh.out.2.1
      have HB := Lib.hid hh.out.2.2.1
      have hsw : tb < wr.heap.size := hh.out.2.2.2
      have c1 := HT.out.cell1
      clear hh
      by_cases hjm : j < m
      · have hj1 : (j : Int) < (m : Int) := by omega
        obtain ⟨b, o, u, v, hu, rfl, hb, g0, g1, _⟩ := (HX0.out.below HB.out).at_ hjm
        have HER := Lib.hid (fun he => fErr_at HJ.out hu he)
        have HNX := Lib.hid (fun he => fErr_next HJ.out hu he)
        have HF := Lib.hid (fun W => checkField_any u v W)
        have hn4 := FfB.new (w := wr) (u := u) (v := v)
        have hb4 := (Below.refl wr.heap.size wr).alloc (Nat.le_refl _) (.cells #[.int .i64 u, .int .i64 v] 45)
        have HT4 := Lib.hid (HT.out.go hb4)
        have HB4 := Lib.hid (Below.then HB.out hb4 (by have := HB.out.size; omega))
        have f0 := hn4.cell0
        have f1 := hn4.cell1
        clear hu hb hb4 hn4
        generalize errF (u, v) = ef at *
        go_wp2_with fail
        refine (HF.out _).mono ?_
        rintro e w5 ⟨rfl, hb5⟩
        have HT5 := Lib.hid (HT4.out.go hb5)
        have HB5 := Lib.hid (Below.then HB4.out hb5 (by omega))
        have hs5 : tb < w5.heap.size := HT5.out.lt
        clear hb5 f0 f1
        by_cases he : ef = 0
        · subst he
          have HN := Lib.hid (HNX.out rfl)
          go_wp2
          go_roundw
          case rel => exact ⟨j + 1, by omega, by go_num, Lib.hid ⟨HN.out, HT5.out, HB5.out, hs5⟩⟩
          case measure => simp [intOf]; omega
        · have d1 : (ef != 0) = true := by simpa using he
          have HV : Hid (k = ef) := Lib.hid (by rw [HCI.out, HER.out he, if_neg he])
          go_wp2
          go_ret
          exact ⟨by rw [HV.out]; rfl, by rw [htb]; exact HB5.out⟩
      · obtain rfl : j = m := by omega
        have hjj : ¬ (j : Int) < (j : Int) := by omega
        rw [List.take_of_length_le (by rw [HLN.out]; omega)] at HJ
        rw [if_pos HJ.out] at HCI
        have HS := Lib.hid (HSZ.out (fErr_0 HJ.out) trivial wr ((HX0.out.below HB.out).more (Nat.le_of_lt hsw)))
        have c0 := HT.out.cell0
        generalize szc n l = sz at *
        clear HSZ
        go_wp2_with fail
        refine HS.out.mono ?_
        rintro e w5 ⟨rfl, hb5⟩
        have HB5 := Lib.hid (Below.then HB.out hb5 (by omega))
        clear hb5
        by_cases hbig : 65536 < sz
        · have d1 : decide (65536 < sz) = true := decide_eq_true hbig
          have HV : Hid (k = 4) := Lib.hid (by rw [HCI.out, if_pos hbig])
          go_wp2
          go_ret
          exact ⟨by rw [HV.out]; rfl, by rw [htb]; exact HB5.out⟩
        · have d1 : decide (65536 < sz) = false := decide_eq_false hbig
          have HV : Hid (k = 0) := Lib.hid (by rw [HCI.out, if_neg hbig])
          go_wp2
          go_ret
          exact ⟨by rw [HV.out]; rfl, by rw [htb]; exact HB5.out⟩
  · have d1 : (ck != 0) = true := by simpa using hz
    have HV : Hid (k = ck) := Lib.hid (by rw [HCI.out, if_neg hz])
    clear hck
    go_wp2
    go_ret
    exact ⟨by rw [HV.out]; rfl, by rw [htb]; exact HB2.out⟩
end Go.Proofs.Ytgddlpabgeeflaa
