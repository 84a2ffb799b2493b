/-
  Contracts of the model's Fit, Store, Write. Conditions: at most nine hundred allocated extents.
-/
import Derived.Test.YtfchccgajcjbbaaMrn
import Derived.Deep.RegionLaw
namespace Go.Proofs.Ytfchccgajcjbbaa
open Go.ChangeShapes Go.WideShapes Go.ChangeAt Go.RowKit
set_option maxHeartbeats 4000000
set_option maxRecDepth 100000

/-- What a method of the model says that writes. -/
def MoE (w : World) (c : Nat → Nat) (q g : Nat) (U' : List (Int × Int)) (bs' : List Int) (r : Value) (e : Ending) (w' : World) : Prop :=
  e = .returned r ∧ ∃ c', Mrn w' c' q g U' bs' ∧ KS Sm c w w' ∧ (∀ x, x < w.heap.size → c' x = c x) ∧ ∀ x, w'.heap.size ≤ x → c' x = 9
theorem moE {w w' : World} {c c1 : Nat → Nat} {q g : Nat} {U' : List (Int × Int)} {bs' : List Int} {r : Value} (h : Mrn w' c1 q g U' bs') (hk : KS Sm c w w') (hc : ∀ x, x < w.heap.size → c1 x = c x) : MoE w c q g U' bs' r (.returned r) w' :=
  ⟨rfl, rc c1 w'.heap.size 9, h.recol (fun _ hx => rc_old hx), hk, fun x hx => (rc_old (Nat.lt_of_lt_of_le hx hk.size)).trans (hc x hx), fun _ hx => rc_new hx⟩

theorem fit_any (v : Int) (N : Nat) (w : World) (hN : N ≤ 8) (hv1 : v < 18446744073709551616) (hv0 : 0 ≤ v) :
    Calls Try.prog 46 #[.int .u64 v, .int .i64 N] w (Tell w (decide (v / 2 ^ (8 * N) = 0))) := by
  by_cases h8 : 8 ≤ N
  · obtain rfl : N = 8 := by omega
    have HD : Hid (decide (v / 2 ^ (8 * 8) = 0) = true) := Lib.hid (decide_eq_true (Int.ediv_eq_zero_of_lt hv0 (by simpa using hv1)))
    generalize decide (v / 2 ^ (8 * 8) = 0) = d at *
    obtain rfl := HD.out
    clear hv0 hv1 HD
    go_enter Try.func46, Try.ntmps46
    go_wp2
    go_ret
    exact ⟨rfl, Below.refl _ _⟩
  · have d8 : decide ((8 : Int) ≤ (N : Int)) = false := decide_eq_false (by omega)
    have e1 : (v / 2 ^ (8 * N) == 0) = decide (v / 2 ^ (8 * N) = 0) := rfl
    have HD := Lib.hid e1
    clear hv0 hv1 e1
    go_enter Try.func46, Try.ntmps46
    go_wp2
    go_ret
    exact ⟨rfl, Below.refl _ _⟩
theorem storeR_no (c : Nat → Nat) (q g : Nat) (U : List (Int × Int)) (bs : List Int) (x y off n v r : Int) (w : World) (h : Mrn w c q g U bs) (hi : Ins bs.length U) (hU : U.length ≤ 900) (hr : numC U x y off n = r) (hr0 : r ≠ 0) :
    Calls Try.prog 19 #[.pointer (some ⟨q, 0, none⟩), .agg #[.int .i64 x, .int .i64 y], .int .i64 off, .int .i64 n, .int .u64 v] w (MoE w c q g U bs (.int .i64 r)) := by
  have hb0 : Below w.heap.size w (w.alloc (.cells #[.int .i64 x, .int .i64 y] 31)) := (Below.refl _ _).alloc (Nat.le_refl _) _
  have HB0 := Lib.hid hb0
  have H1 := Lib.hid (numberR_any c q g U bs x y off n _ (h.go hb0) hi hU)
  rw [hr] at H1
  have hr1 : (r != 0) = true := by rw [bne_iff_ne]; exact hr0
  have HR := Lib.hid h
  clear h hb0 hi hr
  go_enter Try.func19, Try.ntmps19
  go_wp2_with fail
  refine H1.out.mono ?_
  rintro e w1 ⟨rfl, hb⟩
  have HB1 := Lib.hid (Below.then HB0.out hb (Nat.le_refl _))
  clear hb H1 HB0
  go_wp2
  go_ret
  exact moE (HR.out.go HB1.out) (KS.ofBelow HB1.out) (fun _ _ => rfl)
theorem storeR_yes (c : Nat → Nat) (q g : Nat) (U : List (Int × Int)) (bs : List Int) (x y off v : Int) (N : Nat) (w : World) (h : Mrn w c q g U bs) (hi : Ins bs.length U) (hU : U.length ≤ 900) (hr : numC U x y off N = 0) (hv0 : 0 ≤ v) (hv1 : v < 18446744073709551616) :
    Calls Try.prog 19 #[.pointer (some ⟨q, 0, none⟩), .agg #[.int .i64 x, .int .i64 y], .int .i64 off, .int .i64 N, .int .u64 v] w (MoE w c q g U (stB U bs x y off N v) (.int .i64 (stC U x y off N v))) := by
  obtain ⟨hm, hn, hw⟩ := numC_0 hr
  obtain ⟨o0, o1⟩ := wi_is hw
  obtain ⟨x0, _, xy, y1⟩ := hi _ _ hm
  have n1 : 1 ≤ N ∧ N ≤ 8 := by omega
  have hb0 : Below w.heap.size w (w.alloc (.cells #[.int .i64 x, .int .i64 y] 31)) := (Below.refl _ _).alloc (Nat.le_refl _) _
  have HB0 := Lib.hid hb0
  have HE0 := Lib.hid (Box.new (w := w) (x := x) (y := y))
  have HR := Lib.hid ((h.recol (c' := rc c w.heap.size 9) (fun _ hx => rc_old hx)).go hb0)
  have H1 := Lib.hid (numberR_any c q g U bs x y off N _ (h.go hb0) hi hU)
  rw [hr] at H1
  have hsm := h.small
  have hqlt := h.lt
  have hcg : rc c w.heap.size 9 g = 5 := (rc_old h.byt.lt).trans h.cg
  have hcw : rc c w.heap.size 9 w.heap.size ≠ 5 := by rw [rc_new (Nat.le_refl _)]; omega
  have HCC : Hid (∀ z, z < w.heap.size → rc c w.heap.size 9 z = c z) := Lib.hid (fun z hz => rc_old hz)
  have hcq : rc c w.heap.size 9 q ≠ 5 := by
    obtain ⟨vu, _, _, h4, _⟩ := h.mo.ex
    rw [rc_old hqlt, h4]; omega
  generalize rc c w.heap.size 9 = c1 at *
  have HC : Hid (stC U x y off N v = if v / 2 ^ (8 * N) = 0 then 0 else 9) := Lib.hid (by unfold stC; rw [if_pos hr])
  have HS : Hid (stB U bs x y off N v = if stC U x y off N v = 0 then pt bs (x + off).toNat (by8 v N) else bs) := Lib.hid rfl
  generalize stC U x y off N v = sc at *
  generalize stB U bs x y off N v = sb at *
  have HFT := Lib.hid (fun W => fit_any v N W n1.2 hv1 hv0)
  clear h hb0 hi hr hm hn hw hv0 hv1
  go_enter Try.func19, Try.ntmps19
  go_wp2_with fail
  generalize w.alloc (.cells #[.int .i64 x, .int .i64 y] 31) = w1 at *
  refine H1.out.mono ?_
  rintro e w2 ⟨rfl, hb⟩
  have HB2 := Lib.hid (Below.then HB0.out hb (Nat.le_refl _))
  have HE2 := Lib.hid (HE0.out.go hb)
  have HR2 := Lib.hid (HR.out.go hb)
  clear hb H1 HB0 HE0 HR
  by_cases hz : v / 2 ^ (8 * N) = 0
  · rw [if_pos hz] at HC
    rw [HC.out, if_pos rfl] at HS
    rw [decide_eq_true hz] at HFT
    clear hz
    go_wp2_with fail
    refine (HFT.out _).mono ?_
    rintro e w3 ⟨rfl, hb⟩
    have HR3 := Lib.hid (HR2.out.go hb)
    have HB3 := Lib.hid (Below.then HB2.out hb (Nat.le_refl _))
    have HE3 := Lib.hid (HE2.out.go hb)
    have ho : (x + off).toNat + N ≤ bs.length := by omega
    have hz3 : w.heap.size < w3.heap.size := HE3.out.lt
    have hq3 : q < w3.heap.size := HR3.out.lt
    clear hb HR2 HB2 HE2 HFT
    go_wp2
    go_loopw [12] (fun iv wr => ∃ (i : Nat), i ≤ N ∧ iv = .int .i64 i ∧ Hid (Byt wr g (pt bs (x + off).toNat (by8 v i)) ∧ Kept c1 5 w3 wr)) (fun iv _ => N - (intOf iv).toNat)
    case atStart => exact ⟨0, by omega, rfl, Lib.hid ⟨HR3.out.byt, Kept.refl⟩⟩
    case round =>
      obtain ⟨i, hi, rfl, hh⟩ := hrel
      by_cases hlt : i < N
      · have hlt' : (i : Int) < (N : Int) := by omega
        have b0 : Hid (Box wr w.heap.size x y) := Lib.hid ((hh.out.2.block _ hz3 hcw).trans HE3.out)
        have hm2 : Hid (wr.heap[q]? = w3.heap[q]?) := Lib.hid (hh.out.2.block _ hq3 hcq)
        have k2 : wr.cell? ⟨q, 2, none⟩ = some (.slice (some ⟨g, 0, none⟩) bs.length bs.length) := by
          rw [← HR3.out.cell2]
          simp only [World.cell?, hm2.out]
        have a0 : ∀ m : Later wr, m.val.cell? ⟨w.heap.size, 0, none⟩ = some (.int .i64 x) := fun m => later_old m b0.out.cell0
        have a2 : ∀ m : Later wr, m.val.cell? ⟨q, 2, none⟩ = some (.slice (some ⟨g, 0, none⟩) bs.length bs.length) := fun m => later_old m k2
        have e2 : (x + off + (i : Int)).toNat = (x + off).toNat + i := by omega
        have i0 : 0 ≤ x + off + (i : Int) := by omega
        have i1 : x + off + (i : Int) < bs.length := by omega
        have hw1 : IntKind.i64.wrap (x + off) = x + off := by rw [IntKind.wrap_i64]; omega
        have hw2 : IntKind.i64.wrap (x + off + i) = x + off + i := by rw [IntKind.wrap_i64]; omega
        have hw3 : IntKind.i64.wrap (8 * (i : Int)) = 8 * i := by rw [IntKind.wrap_i64]; omega
        clear k2
        go_wp2
        refine wp_region_later_tail 16 (by kernel_rfl) (by kernel_rfl) ?_
        simp only [List.take_succ_cons, List.take_zero, List.drop_succ_cons, List.drop_zero]
        repeat (go_big_quiet_step (fail))
        refine wpQuiet_nil ?_
        rintro w7 ⟨⟨_, hq⟩, rfl⟩
        have hB7 := hh.out.1.go hq
        have hc := hB7.cell (i := (x + off).toNat + i) (by rw [pt_len]; omega)
        have hf := hB7.thawed ((x + off).toNat + i)
        have HST : Hid (Byt (w7.setCell ⟨g, (x + off).toNat + i, none⟩ (.int .u8 (v / 2 ^ (8 * i) % 256))) g (pt bs (x + off).toNat (by8 v (i + 1)))) := Lib.hid (by
          rw [pt_by8, pow256]
          exact hB7.set _ _)
        have HKT : Hid (Kept c1 5 w3 (w7.setCell ⟨g, (x + off).toNat + i, none⟩ (.int .u8 (v / 2 ^ (8 * i) % 256)))) := Lib.hid ((hh.out.2.trans (Kept.ofBelow hq)).own hcg _)
        clear hh hB7 hq a0 a2
        go_wp2
        go_roundw
        case rel => exact ⟨i + 1, by omega, by go_num, Lib.hid ⟨HST.out, HKT.out⟩⟩
        case measure => simp [intOf]; omega
      · obtain rfl : i = N := by omega
        have HF := Lib.hid (hh.out.1)
        have HK := Lib.hid (hh.out.2)
        clear hh
        go_wp2
        go_ret
        rw [HC.out, HS.out]
        exact moE (HR3.out.wrote HK.out HF.out pt_len (pt_fit HR3.out.fit by8_fit)) ((KS.ofBelow HB3.out).trans (KS.of HK.out (.inr rfl)) HCC.out) HCC.out
  · rw [if_neg hz] at HC
    have HS' : Hid (sb = bs) := Lib.hid (by rw [HS.out, HC.out]; rfl)
    rw [decide_eq_false hz] at HFT
    clear hz
    go_wp2_with fail
    refine (HFT.out _).mono ?_
    rintro e w3 ⟨rfl, hb⟩
    have HR3 := Lib.hid (HR2.out.go hb)
    have HB3 := Lib.hid (Below.then HB2.out hb (Nat.le_refl _))
    clear hb HFT
    go_wp2
    go_ret
    rw [HC.out, HS'.out]
    exact moE HR3.out (KS.ofBelow HB3.out) HCC.out

theorem Row.keptC {w w' : World} {c : Nat → Nat} {k n cp : Nat} {A : Option Addr} {vs : List Value} (h : Row w w.heap.size A n cp vs) (hk : Kept c k w w') (hne : ∀ b o, A = some ⟨b, o, none⟩ → b < w.heap.size → c b ≠ k) : Row w' w'.heap.size A n cp vs :=
  ⟨h.len, h.cap, h.small, h.nil, fun hn => by
    obtain ⟨b, o, e, hb, hc⟩ := h.cells hn
    refine ⟨b, o, e, Nat.lt_of_lt_of_le hb hk.size, fun i hi => ?_⟩
    rw [← hc i hi]
    simp only [World.cell?, hk.block b hb (hne b o e hb)]⟩
theorem writeR_any (c : Nat → Nat) (q g : Nat) (U : List (Int × Int)) (bs : List Int) (x y off : Int) (Ab : Option Addr) (nb cb : Nat) (l : List Int) (w : World) (h : Mrn w c q g U bs) (hi : Ins bs.length U) (hU : U.length ≤ 900) (hr : Row w w.heap.size Ab nb cb (iv .u8 l)) (hf : Fit .u8 l) (hne : ∀ b o, Ab = some ⟨b, o, none⟩ → b < w.heap.size → c b ≠ 5) :
    Calls Try.prog 23 #[.pointer (some ⟨q, 0, none⟩), .agg #[.int .i64 x, .int .i64 y], .int .i64 off, .slice Ab nb cb] w (MoE w c q g U (wrB U bs x y off l) (.int .i64 (bytC U x y off nb))) := by
  have hb0 : Below w.heap.size w (w.alloc (.cells #[.int .i64 x, .int .i64 y] 31)) := (Below.refl _ _).alloc (Nat.le_refl _) _
  have HBX := Lib.hid (Box.new (w := w) (x := x) (y := y))
  have HB0 := Lib.hid hb0
  have HR := Lib.hid ((h.recol (c' := rc c w.heap.size 9) (fun _ hx => rc_old hx)).go hb0)
  have HRW := Lib.hid (hr.go hb0)
  have HF := Lib.hid hf
  have hsm := h.small
  have hcap := hr.cap
  have hmax := hr.small
  have hll : l.length = nb := by have := hr.len; rwa [iv_len] at this
  have HLL := Lib.hid hll
  unfold maxLen at hmax
  have HIN := Lib.hid (fun hm => hi x y hm)
  have hqlt := h.lt
  have hcg : rc c w.heap.size 9 g = 5 := (rc_old h.byt.lt).trans h.cg
  have hcw : rc c w.heap.size 9 w.heap.size ≠ 5 := by rw [rc_new (Nat.le_refl _)]; omega
  have HCC : Hid (∀ z, z < w.heap.size → rc c w.heap.size 9 z = c z) := Lib.hid (fun z hz => rc_old hz)
  have HNE : Hid (∀ b o, Ab = some ⟨b, o, none⟩ → 0 < nb → rc c w.heap.size 9 b ≠ 5) := Lib.hid (fun b o e hn => by
    obtain ⟨b', o', e', hb', _⟩ := hr.cells hn
    have hbb : b = b' := by rw [e] at e'; injection e' with e'; injection e'
    rw [rc_old (by omega)]
    exact hne b o e (by omega))
  have hcq : rc c w.heap.size 9 q ≠ 5 := by
    obtain ⟨vu, _, _, h4, _⟩ := h.mo.ex
    rw [rc_old hqlt, h4]; omega
  generalize rc c w.heap.size 9 = c1 at *
  clear h hb0 hi hr hf hll hne
  go_enter Try.func23, Try.ntmps23
  go_wp2
  generalize w.alloc (.cells #[.int .i64 x, .int .i64 y] 31) = w1 at *
  have a1 : ∀ m : Later w1, m.val.cell? ⟨w.heap.size, 0, none⟩ = some (.int .i64 x) := fun m => later_old m HBX.out.cell0
  have a2 : ∀ m : Later w1, m.val.cell? ⟨w.heap.size, 1, none⟩ = some (.int .i64 y) := fun m => later_old m HBX.out.cell1
  have H2 := Lib.hid (fun m : Later w1 => hasR_any c1 2 q _ x y U m.val (HR.out.go m.2).mo (by omega))
  generalize hd : decide ((x, y) ∈ U) = d at *
  have HD := Lib.hid hd
  clear hd
  refine wp_region_later (by kernel_rfl) (by kernel_rfl) ?_
  repeat (go_big_quiet_step (first | (go_at_call 44; exact Calls.later (H2.out _))))
  refine wpQuiet_nil ?_
  rintro w4 ⟨⟨_, hq⟩, rfl⟩
  have HB4 := Lib.hid (Below.then HB0.out hq (Nat.le_refl _))
  have HE4 := Lib.hid (HBX.out.go hq)
  have HR4 := Lib.hid (HR.out.go hq)
  have HRW4 := Lib.hid (HRW.out.go hq)
  have g0 := HE4.out.cell0
  have g1 := HE4.out.cell1
  clear hq H2 HB0 HBX HR a1 a2 HRW
  cases d with
  | false =>
    have HC : Hid (bytC U x y off nb = 6) := Lib.hid (if_neg (of_decide_eq_false HD.out))
    have HL : Hid (wrB U bs x y off l = bs) := Lib.hid (by unfold wrB; rw [HLL.out, HC.out, if_neg (by omega)])
    go_wp2
    go_ret
    rw [HC.out, HL.out]
    exact moE HR4.out (KS.ofBelow HB4.out) HCC.out
  | true =>
    have HM := Lib.hid (of_decide_eq_true HD.out)
    obtain ⟨x0, y0, xy, y1⟩ := HIN.out HM.out
    have HW := Lib.hid (fun W => withinR_any off nb y W ⟨by omega, y1⟩ (by omega))
    have HC : Hid (bytC U x y off nb = if wi off nb y = true then 0 else 7) := Lib.hid (by unfold bytC; rw [if_pos HM.out, if_neg (by omega)])
    have HWI := Lib.hid (fun h : wi off nb y = true => wi_is h)
    generalize wi off nb y = b at *
    cases b with
    | false =>
      have HL : Hid (wrB U bs x y off l = bs) := Lib.hid (by unfold wrB; rw [HLL.out, HC.out]; rfl)
      go_wp2_with fail
      refine (HW.out _).mono ?_
      rintro e w5 ⟨rfl, hb⟩
      have HB5 := Lib.hid (Below.then HB4.out hb (Nat.le_refl _))
      have HR5 := Lib.hid (HR4.out.go hb)
      clear hb HW
      go_wp2
      go_ret
      rw [HC.out, HL.out]
      exact moE HR5.out (KS.ofBelow HB5.out) HCC.out
    | true =>
      obtain ⟨o0, o1⟩ := HWI.out rfl
      have HL : Hid (wrB U bs x y off l = pt bs (x + off).toNat l) := Lib.hid (by unfold wrB; rw [HLL.out, HC.out]; rfl)
      go_wp2_with fail
      refine (HW.out _).mono ?_
      rintro e w3 ⟨rfl, hb⟩
      have HB3 := Lib.hid (Below.then HB4.out hb (Nat.le_refl _))
      have HE3 := Lib.hid (HE4.out.go hb)
      have HR3 := Lib.hid (HR4.out.go hb)
      have HRW3 := Lib.hid (HRW4.out.go hb)
      clear hb HW HB4 HE4 HR4 g0 g1 HRW4
      have ho : (x + off).toNat + nb ≤ bs.length := by omega
      have hz3 : w.heap.size < w3.heap.size := HE3.out.lt
      have hq3 : q < w3.heap.size := HR3.out.lt
      go_wp2
      go_loopw [9] (fun iv wr => ∃ (i : Nat), i ≤ nb ∧ iv = .int .i64 i ∧ Hid (Byt wr g (pt bs (x + off).toNat (l.take i)) ∧ Kept c1 5 w3 wr)) (fun iv _ => nb - (intOf iv).toNat)
      case atStart => exact ⟨0, by omega, rfl, Lib.hid ⟨HR3.out.byt, Kept.refl⟩⟩
      case round =>
        obtain ⟨i, hi, rfl, hh⟩ := hrel
        by_cases hlt : i < nb
        · have hlt' : (i : Int) < (nb : Int) := by omega
          have b0 : Hid (Box wr w.heap.size x y) := Lib.hid ((hh.out.2.block _ hz3 hcw).trans HE3.out)
          have hm2 : Hid (wr.heap[q]? = w3.heap[q]?) := Lib.hid (hh.out.2.block _ hq3 hcq)
          have k2 : wr.cell? ⟨q, 2, none⟩ = some (.slice (some ⟨g, 0, none⟩) bs.length bs.length) := by
            rw [← HR3.out.cell2]
            simp only [World.cell?, hm2.out]
          obtain ⟨b, o, rfl, hbw, hcc⟩ := (HRW3.out.keptC hh.out.2 (fun b o e _ => HNE.out b o e (by omega))).int hlt
          have a0 : ∀ m : Later wr, m.val.cell? ⟨w.heap.size, 0, none⟩ = some (.int .i64 x) := fun m => later_old m b0.out.cell0
          have a2 : ∀ m : Later wr, m.val.cell? ⟨q, 2, none⟩ = some (.slice (some ⟨g, 0, none⟩) bs.length bs.length) := fun m => later_old m k2
          have a3 : ∀ m : Later wr, m.val.cell? ⟨b, o + i, none⟩ = some (.int .u8 (l.getD i 0)) := fun m => later_old m hcc
          have HPT : Hid (pt bs (x + off).toNat (l.take (i + 1)) = (pt bs (x + off).toNat (l.take i)).set ((x + off).toNat + i) (l.getD i 0)) := Lib.hid (pt_take (by rw [HLL.out]; exact hlt))
          have e2 : (x + off + (i : Int)).toNat = (x + off).toNat + i := by omega
          have i0 : 0 ≤ x + off + (i : Int) := by omega
          have i1 : x + off + (i : Int) < bs.length := by omega
          have hw1 : IntKind.i64.wrap (x + off) = x + off := by rw [IntKind.wrap_i64]; omega
          have hw2 : IntKind.i64.wrap (x + off + i) = x + off + i := by rw [IntKind.wrap_i64]; omega
          clear k2 hcc
          generalize l.getD i 0 = u at *
          go_wp2
          refine wp_region_later_tail 15 (by kernel_rfl) (by kernel_rfl) ?_
          simp only [List.take_succ_cons, List.take_zero, List.drop_succ_cons, List.drop_zero]
          repeat (go_big_quiet_step (fail))
          refine wpQuiet_nil ?_
          rintro w7 ⟨⟨_, hq⟩, rfl⟩
          have hB7 := hh.out.1.go hq
          have hc := hB7.cell (i := (x + off).toNat + i) (by rw [pt_len]; omega)
          have hf := hB7.thawed ((x + off).toNat + i)
          have HST : Hid (Byt (w7.setCell ⟨g, (x + off).toNat + i, none⟩ (.int .u8 u)) g (pt bs (x + off).toNat (l.take (i + 1)))) := Lib.hid (by
            rw [HPT.out]
            exact hB7.set _ _)
          have HKT : Hid (Kept c1 5 w3 (w7.setCell ⟨g, (x + off).toNat + i, none⟩ (.int .u8 u))) := Lib.hid ((hh.out.2.trans (Kept.ofBelow hq)).own hcg _)
          clear hh hB7 hq a0 a2 a3
          go_wp2
          go_roundw
          case rel => exact ⟨i + 1, by omega, by go_num, Lib.hid ⟨HST.out, HKT.out⟩⟩
          case measure => simp [intOf]; omega
        · obtain rfl : i = nb := by omega
          have HF2 : Hid (Byt wr g (pt bs (x + off).toNat l)) := Lib.hid (by
            have := hh.out.1
            rwa [List.take_of_length_le (by rw [HLL.out]; omega)] at this)
          have HK := Lib.hid (hh.out.2)
          clear hh
          go_wp2
          go_ret
          rw [HC.out, HL.out]
          exact moE (HR3.out.wrote HK.out HF2.out pt_len (pt_fit HR3.out.fit HF.out)) ((KS.ofBelow HB3.out).trans (KS.of HK.out (.inr rfl)) HCC.out) HCC.out
end Go.Proofs.Ytfchccgajcjbbaa
