/-
  The law TyperegPlays as a walk: called with any arguments of its types it returns true. No conditions.
-/
import Derived.Test.YtgddlpabgeeflaaClr
import Derived.Test.YtgddlpabgeeflaaAlt
import Derived.Test.YtgddlpabgeeflaaOts
namespace Go.Proofs.Ytgddlpabgeeflaa
open Go.ChangeShapes Go.WideShapes Go.RowKit
set_option linter.unusedVariables false
set_option linter.unusedSimpArgs false
set_option maxHeartbeats 8000000
set_option maxRecDepth 100000

/-- The colours of a registry at block b, a model's at m and a tape at t. -/
def ci3 (b m t : Nat) : Nat → Nat := fun g => if g = b then 2 else if g = m then 3 else if g = t then 4 else 0
theorem ci3_b {b m t : Nat} : ci3 b m t b = 2 := if_pos rfl
theorem ci3_m {b m t : Nat} (h : b < m) : ci3 b m t m = 3 := by
  unfold ci3
  rw [if_neg (by omega), if_pos rfl]
theorem ci3_t {b m t : Nat} (h : b < m) (h' : m < t) : ci3 b m t t = 4 := by
  unfold ci3
  rw [if_neg (by omega), if_neg (by omega), if_pos rfl]
theorem ci3_2 {b m t g : Nat} (h : ci3 b m t g = 2) : g = b := by
  unfold ci3 at h
  split at h
  · assumption
  · split at h
    · omega
    · split at h <;> omega
theorem ci3_3 {b m t g : Nat} (h : ci3 b m t g = 3) : g = m := by
  unfold ci3 at h
  split at h
  · omega
  · split at h
    · assumption
    · split at h <;> omega
/-- The law's state: the registry, the model and the tape. -/
structure Pd (rb mb tb : Nat) (L : List Int) (w : World) (c : Nat → Nat) (T : List (Int × List (Int × Int))) (idx : Nat) : Prop where
  reg : Reg w c 2 0 rb T
  mrg : Mrg w c 3 mb T
  ts : TS w tb L idx
  low : ∀ g, g ≤ tb → c g = ci3 rb mb tb g
  lt : rb < mb ∧ mb < tb
/-- The same, where the registry has got a type already that the model has not. -/
structure Ph (rb mb tb : Nat) (L : List Int) (w : World) (c : Nat → Nat) (T T' : List (Int × List (Int × Int))) (idx : Nat) : Prop where
  reg : Reg w c 2 0 rb T'
  mrg : Mrg w c 3 mb T
  ts : TS w tb L idx
  low : ∀ g, g ≤ tb → c g = ci3 rb mb tb g
  lt : rb < mb ∧ mb < tb
section
variable {rb mb tb idx idx' : Nat} {L : List Int} {w w' : World} {c c' : Nat → Nat} {T T' : List (Int × List (Int × Int))}
theorem Pd.go (h : Pd rb mb tb L w c T idx) (hb : Below w.heap.size w w') : Pd rb mb tb L w' c T idx := ⟨h.reg.go hb, h.mrg.go hb, h.ts.go hb, h.low, h.lt⟩
theorem Pd.low' (h : Pd rb mb tb L w c T idx) (hc : ∀ g, g < w.heap.size → c' g = c g) : ∀ g, g ≤ tb → c' g = ci3 rb mb tb g := fun g hg => (hc g (Nat.lt_of_le_of_lt hg h.ts.lt)).trans (h.low g hg)
theorem Pd.tb4 (h : Pd rb mb tb L w c T idx) : c tb = 4 := (h.low tb (Nat.le_refl _)).trans (ci3_t h.lt.1 h.lt.2)
theorem Pd.read (h : Pd rb mb tb L w c T idx) (ho : Oth tb w w') (ht : TS w' tb L idx') : Pd rb mb tb L w' (rc c w.heap.size 0) T idx' := by
  have hk : Kept c 4 w w' := Kept.ofOth ho h.tb4
  exact ⟨h.reg.kept hk (by omega) (by omega) (fun _ hg => rc_old hg), h.mrg.kept hk (by omega) (by omega) (fun _ hg => rc_old hg), ht, h.low' (fun _ hg => rc_old hg), h.lt⟩
theorem Pd.regd (h : Pd rb mb tb L w c T idx) (hc : ∀ g, g < w.heap.size → c' g = c g) (hr : Reg w' c' 2 0 rb T') (hk : Kept c 2 w w') : Ph rb mb tb L w' c' T T' idx := by
  obtain ⟨v, rs, h1, h2, _⟩ := h.reg.ex
  obtain ⟨A, n, cc, rfl, _⟩ := h2.shape
  refine ⟨hr, h.mrg.kept hk (by omega) (by omega) hc, h.ts.keptC hk (by rw [h.tb4]; omega) (fun g hg he => ?_), h.low' hc, h.lt⟩
  rw [h.low g (Nat.le_of_lt hg)] at he
  obtain rfl := ci3_2 he
  exact ⟨_, _, _, h1, fun x hx => by cases hx⟩
theorem Ph.regd (h : Ph rb mb tb L w c T T' idx) (hr : Mrg w' (rc c w.heap.size 0) 3 mb T') (hk : Kept c 3 w w') : Pd rb mb tb L w' (rc c w.heap.size 0) T' idx := by
  obtain ⟨A, n, cc, rs, h1, _⟩ := h.mrg.ex
  have htb : c tb = 4 := (h.low tb (Nat.le_refl _)).trans (ci3_t h.lt.1 h.lt.2)
  refine ⟨h.reg.kept hk (by omega) (by omega) (fun _ hg => rc_old hg), hr, h.ts.keptC hk (by rw [htb]; omega) (fun g hg he => ?_), fun g hg => (rc_old (Nat.lt_of_le_of_lt hg h.ts.lt)).trans (h.low g hg), h.lt⟩
  rw [h.low g (Nat.le_of_lt hg)] at he
  obtain rfl := ci3_3 he
  exact ⟨_, _, _, h1, fun x hx => by cases hx⟩
theorem low_kept {k : Nat} (hl : ∀ g, g ≤ tb → c g = ci3 rb mb tb g) (hlt : rb < mb ∧ mb < tb) (hk : Kept c k w w') {w0 : World} (hb : Below w0.heap.size w0 w) (hrb : w0.heap.size ≤ rb) (h0 : k ≠ 0) : Below w0.heap.size w0 w' :=
  hb.trans (hk.below (fun g hg => by
    rw [hl g (by omega)]
    unfold ci3
    rw [if_neg (by omega), if_neg (by omega), if_neg (by omega)]
    omega) hb.size)
end
theorem rgT_len1 {T : List (Int × List (Int × Int))} {x : Int × List (Int × Int)} : (rgT T x).length ≤ T.length + 1 := by
  unfold rgT
  split
  · simp
  · omega
/-- What the law knows between two rounds. -/
def Pb (w0 : World) (rb mb tb : Nat) (L : List Int) (i : Nat) (w : World) : Prop :=
  ∃ c T idx, Pd rb mb tb L w c T idx ∧ T.length ≤ i ∧ Sm T ∧ idx ≤ 12 * i ∧ Below w0.heap.size w0 w
theorem typeregPlays_walk (a0 : Option Addr) (len0 cap0 : Nat) (z0 : List Int) (a1 : Option Addr) (len1 cap1 : Nat) (z1 : List Ty) (tag : Int) (w : World) (w0 : IsRow .u16 w a0 len0 cap0 z0) (w1 : IsTys w a1 len1 cap1 z1) (w2 : (Lit.int .i8 tag).wf = true) :
    Calls Try.prog 3 #[.slice a0 len0 cap0, .slice a1 len1 cap1, .int .i8 tag] w fun e w' => e = .returned (.bool true) ∧ Below w.heap.size w w' := by
  obtain ⟨hrow, hfit⟩ := w0.row
  generalize z0.take len0 = L0 at *
  have HROW := Lib.hid hrow
  obtain ⟨L, hL⟩ : ∃ L, L0.take 80 = L := ⟨_, rfl⟩
  have HF : Hid (Fit .u16 L) := Lib.hid (by rw [← hL]; exact hfit.take 80)
  have HK1 := Lib.hid w1.1
  have HF1 := Lib.hid w1.2
  have b2 := Go.bounds_i8 w2
  have hcap1 := w1.1.cap
  have hsm1 := w1.1.small
  unfold maxLen at hsm1
  have HN := Lib.hid (newT_any w)
  clear w0 w1 w2 hrow hfit
  by_cases h8 : 8 < len1
  · have h8' : (8 : Int) < (len1 : Int) := by omega
    go_enter Try.func3, Try.ntmps3
    go_wp2_with fail
    refine (awake10_any w).mono ?_
    rintro e w5 ⟨rfl, hb5⟩
    go_wp2
    go_ret
    exact ⟨rfl, hb5⟩
  · have h8' : ¬ (8 : Int) < (len1 : Int) := by omega
    go_enter Try.func3, Try.ntmps3
    go_wp2_with fail
    refine HN.out.mono ?_
    rintro e w1 ⟨rfl, hw1⟩
    have hz1 : w1.heap.size = w.heap.size + 1 := by rw [hw1]; simp
    have HB1 : Hid (Below w.heap.size w w1) := Lib.hid (by rw [hw1]; exact (Below.refl _ _).alloc (Nat.le_refl _) _)
    have HRG : Hid (∀ tb, Reg w1 (ci3 w.heap.size w1.heap.size tb) 2 0 w.heap.size []) := Lib.hid (fun tb => by rw [hw1]; exact Reg.new ci3_b)
    clear hw1 HN
    have hb2' : Below w1.heap.size w1 (w1.alloc (.cells #[.slice none 0 0] 30)) := (Below.refl _ _).alloc (Nat.le_refl _) _
    have HB2 : Hid (Below w.heap.size w (w1.alloc (.cells #[.slice none 0 0] 30))) := Lib.hid (Below.then HB1.out hb2' (by omega))
    have HRG2 : Hid (∀ tb, Reg (w1.alloc (.cells #[.slice none 0 0] 30)) (ci3 w.heap.size w1.heap.size tb) 2 0 w.heap.size []) := Lib.hid (fun tb => (HRG.out tb).go hb2')
    have HMG2 : Hid (∀ tb, Mrg (w1.alloc (.cells #[.slice none 0 0] 30)) (ci3 w.heap.size w1.heap.size tb) 3 w1.heap.size []) := Lib.hid (fun tb => Mrg.new (ci3_m (by omega)))
    have hz2 : (w1.alloc (.cells #[.slice none 0 0] 30)).heap.size = w1.heap.size + 1 := by simp
    have HOF := Lib.hid (of_any a0 len0 cap0 L0 80 (w1.alloc (.cells #[.slice none 0 0] 30)) (HROW.out.go HB2.out) (by omega))
    rw [hL] at HOF
    clear HRG HB1 hb2' HROW
    go_wp2_with fail
    refine HOF.out.mono ?_
    generalize w1.alloc (.cells #[.slice none 0 0] 30) = w2 at *
    rintro e w3 ⟨tb, rfl, hts, hge, hb3⟩
    have HS0 : Hid (Pb w w.heap.size w1.heap.size tb L 0 w3) := Lib.hid ⟨ci3 w.heap.size w1.heap.size tb, [], 0, ⟨(HRG2.out tb).go hb3, (HMG2.out tb).go hb3, hts, fun _ _ => rfl, by omega, by omega⟩, Nat.le_refl _, Sm.nil, Nat.zero_le _, Below.then HB2.out hb3 (by omega)⟩
    clear hts hge hb3 HOF HRG2 HMG2 HB2 hL hz2
    rw [hz1] at HS0
    clear hz1
    go_wp2
    generalize hrb : w.heap.size = rb at *
    go_loopw [10] (fun kv wr => ∃ (i : Nat), i ≤ 12 ∧ kv = .int .i64 i ∧ Hid (Pb w rb (rb + 1) tb L i wr)) (fun kv _ => 12 - (intOf kv).toNat)
    case atStart => exact ⟨0, by omega, rfl, HS0⟩
    case round =>
      obtain ⟨i, hi, rfl, hh⟩ := hrel
      obtain ⟨c, T, idx, hd, hTl, hSm, hidx, hbw⟩ := hh.out
      clear hh
      by_cases hi12 : i < 12
      · have hi1 : (i : Int) < 12 := by omega
        have HTY := Lib.hid (typeO_any tb idx L wr hd.ts HF.out (by omega))
        obtain ⟨hck, hl0, hl4⟩ := made_chk L idx
        have hidn := typN_le (L := L) (i := idx)
        generalize typN L idx = idx' at *
        obtain ⟨⟨n0, l0⟩, htv⟩ : ∃ p, typV L idx = p := ⟨_, rfl⟩
        rw [htv] at HTY hl4
        simp only at hl4
        have HD := Lib.hid hd
        have HBW := Lib.hid hbw
        have HSM := Lib.hid hSm
        clear hd hSm hbw htv hck hl0
        go_wp2_with fail
        refine HTY.out.mono ?_
        rintro e w3 ⟨A0, m0, cc0, rfl, hown, hts3, ho3⟩
        have hd3 := HD.out.read ho3 hts3
        have hk3 : Kept c 4 wr w3 := Kept.ofOth ho3 HD.out.tb4
        have HB3 : Hid (Below w.heap.size w w3) := Lib.hid (low_kept HD.out.low HD.out.lt hk3 HBW.out (by omega) (by omega))
        have HD3 := Lib.hid hd3
        have HE3 : Hid (Ex0 w3 (rc c wr.heap.size 0) A0 m0 cc0 l0) := Lib.hid ⟨hown.exs, fun a ha => ⟨(hown.at0 ha).2.1, rc_new (hown.at0 ha).1⟩⟩
        have hml : l0.length = m0 := hown.exs.len
        have hbx : wr.heap.size ≤ w3.heap.size := ho3.size
        have hcx : rc c wr.heap.size 0 w3.heap.size = 0 := rc_new hbx
        have hz3 := HB3.out.size
        clear hown hts3 ho3 hk3 hd3 HTY HD HBW
        generalize rc c wr.heap.size 0 = c4 at *
        have hm00 : m0 ≤ 40 := by omega
        have hl00 : l0.length ≤ 40 := by omega
        by_cases hil : i < len1
        · have hil' : (i : Int) < (len1 : Int) := by omega
          have hi0 : (0 : Int) ≤ (i : Int) := by omega
          have hb40 : Below w.heap.size w (w3.alloc (.cells #[.int .i64 n0, .slice A0 m0 cc0] 35)) := HB3.out.alloc hz3 _
          obtain ⟨b, o, r, hr, rfl, hb, g0, g1⟩ := (HK1.out.below (by rw [← hrb]; exact hb40)).ty hil
          have hrm := List.mem_of_getElem? hr
          have HRX := Lib.hid (HF1.out r hrm)
          have hrl : r.l.length = r.m := HRX.out.len
          obtain ⟨n, A, m, cc, l⟩ := r
          simp only at g0 g1 HRX hrl
          have h0 := (TyB.new (w := w3) (n := n0) (A := A0) (m := m0) (c := cc0)).cell0
          have h1 := (TyB.new (w := w3) (n := n0) (A := A0) (m := m0) (c := cc0)).cell1
          have f0 := (TyB.new (w := w3) (n := n0) (A := A0) (m := m0) (c := cc0)).fr 0
          have f1 := (TyB.new (w := w3) (n := n0) (A := A0) (m := m0) (c := cc0)).fr 1
          clear hr hrm hb hb40
          by_cases hm40 : m ≤ 40
          · have hm40' : (m : Int) ≤ 40 := by omega
            have hl40 : l.length ≤ 40 := by omega
            have hb4 : Below w3.heap.size w3 (w3.alloc (.cells #[.int .i64 n, .slice A m cc] 35)) := (Below.refl _ _).alloc (Nat.le_refl _) _
            have HD4 := Lib.hid (HD3.out.go hb4)
            have HTX := Lib.hid (TyB.new (w := w3) (n := n) (A := A) (m := m) (c := cc))
            have HB4 := Lib.hid (Below.then HB3.out hb4 (Nat.le_refl _))
            have HXC : Hid (∀ (W : World) (c' : Nat → Nat), Kept c4 2 (w3.alloc (.cells #[.int .i64 n, .slice A m cc] 35)) W → (∀ g, g < (w3.alloc (.cells #[.int .i64 n, .slice A m cc] 35)).heap.size → c' g = c4 g) → Below w.heap.size w W → Exs W W.heap.size A m cc l) := Lib.hid (fun W c' _ _ hb => (HRX.out.below (by rw [← hrb]; exact hb)).more (by have := hb.size; omega))
            clear hb4
            go_wp2_with fail
            generalize w3.alloc (.cells #[.int .i64 n, .slice A m cc] 35) = w4 at *
            generalize w3.heap.size = bx at *
            have HREG := Lib.hid (register_any w4 c4 2 0 rb T n A m cc l HD4.out.reg (by omega) (Nat.zero_le _) (HXC.out w4 c4 Kept.refl (fun _ _ => rfl) HB4.out) hm40 (by omega))
            refine HREG.out.mono ?_
            rintro e w5 ⟨c5, rfl, hc5, hr5, hk5⟩
            have hh5 := HD4.out.regd hc5 hr5 hk5
            have HB5 : Hid (Below w.heap.size w w5) := Lib.hid (low_kept HD4.out.low HD4.out.lt hk5 HB4.out (by omega) (by omega))
            have hx5 := HXC.out w5 c5 hk5 hc5 HB5.out
            have HT5 := Lib.hid (hk5.tyb HTX.out (by rw [hcx]; omega))
            have HMR := Lib.hid (registerR_any w5 c5 3 (rb + 1) T n A m cc l hh5.mrg (by omega) hx5 hm40 (by omega))
            obtain ⟨⟨va, ve⟩, hv⟩ : ∃ v, rgV T (n, l) = v := ⟨_, rfl⟩
            unfold MgE at HMR
            rw [hv] at HMR ⊢
            simp only at HMR ⊢
            have HH5 := Lib.hid hh5
            have e2 := HT5.out.cell0
            have e3 := HT5.out.cell1
            clear hc5 hr5 hk5 hx5 hh5 hv HREG
            go_wp2_with fail
            refine HMR.out.mono ?_
            rintro e w6 ⟨rfl, hm6, hk6⟩
            have HD6 := Lib.hid (HH5.out.regd hm6 hk6)
            have HB6 : Hid (Below w.heap.size w w6) := Lib.hid (low_kept HH5.out.low HH5.out.lt hk6 HB5.out (by omega) (by omega))
            have HT6L := Lib.hid (rgT_len1 (T := T) (x := (n, l)))
            have HSM6 := Lib.hid (HSM.out.rg (x := (n, l)) hl40)
            generalize rgT T (n, l) = T' at *
            have HAL := Lib.hid (alike_any w6 (rc c5 w5.heap.size 0) 2 0 rb 3 (rb + 1) T' tag HD6.out.reg HD6.out.mrg (by have := HT6L.out; omega) HSM6.out ⟨by omega, by omega⟩)
            clear hm6 hk6 HMR HH5 HT5 e2 e3
            go_wp2_with fail
            refine HAL.out.mono ?_
            rintro e w7 ⟨rfl, hb7⟩
            have HD7 := Lib.hid (HD6.out.go hb7)
            have HB7 : Hid (Below w.heap.size w w7) := Lib.hid (Below.then HB6.out hb7 (Nat.le_refl _))
            clear hb7 HAL HD6 HB6
            go_wp2
            go_roundw
            case rel => exact ⟨i + 1, by omega, by go_num, Lib.hid ⟨_, T', idx', HD7.out, by have := HT6L.out; omega, HSM6.out, by omega, HB7.out⟩⟩
            case measure => simp [intOf]; omega
          · have hm40' : ¬ (m : Int) ≤ 40 := by omega
            have hb4 : Below w3.heap.size w3 (w3.alloc (.cells #[.int .i64 n0, .slice A0 m0 cc0] 35)) := (Below.refl _ _).alloc (Nat.le_refl _) _
            have HD4 := Lib.hid (HD3.out.go hb4)
            have HTX := Lib.hid (TyB.new (w := w3) (n := n0) (A := A0) (m := m0) (c := cc0))
            have HB4 := Lib.hid (Below.then HB3.out hb4 (Nat.le_refl _))
            have HXC : Hid (∀ (W : World) (c' : Nat → Nat), Kept c4 2 (w3.alloc (.cells #[.int .i64 n0, .slice A0 m0 cc0] 35)) W → (∀ g, g < (w3.alloc (.cells #[.int .i64 n0, .slice A0 m0 cc0] 35)).heap.size → c' g = c4 g) → Below w.heap.size w W → Exs W W.heap.size A0 m0 cc0 l0) := Lib.hid (fun W c' hk hc _ => ((HE3.out.kept (j := 1) (c' := c4) (Kept.ofBelow ((Below.refl _ _).alloc (Nat.le_refl _) _)) (by omega) (fun _ _ => rfl)).kept hk (by omega) hc).1)
            clear hb4
            go_wp2_with fail
            generalize w3.alloc (.cells #[.int .i64 n0, .slice A0 m0 cc0] 35) = w4 at *
            generalize w3.heap.size = bx at *
            have HREG := Lib.hid (register_any w4 c4 2 0 rb T n0 A0 m0 cc0 l0 HD4.out.reg (by omega) (Nat.zero_le _) (HXC.out w4 c4 Kept.refl (fun _ _ => rfl) HB4.out) hm00 (by omega))
            refine HREG.out.mono ?_
            rintro e w5 ⟨c5, rfl, hc5, hr5, hk5⟩
            have hh5 := HD4.out.regd hc5 hr5 hk5
            have HB5 : Hid (Below w.heap.size w w5) := Lib.hid (low_kept HD4.out.low HD4.out.lt hk5 HB4.out (by omega) (by omega))
            have hx5 := HXC.out w5 c5 hk5 hc5 HB5.out
            have HT5 := Lib.hid (hk5.tyb HTX.out (by rw [hcx]; omega))
            have HMR := Lib.hid (registerR_any w5 c5 3 (rb + 1) T n0 A0 m0 cc0 l0 hh5.mrg (by omega) hx5 hm00 (by omega))
            obtain ⟨⟨va, ve⟩, hv⟩ : ∃ v, rgV T (n0, l0) = v := ⟨_, rfl⟩
            unfold MgE at HMR
            rw [hv] at HMR ⊢
            simp only at HMR ⊢
            have HH5 := Lib.hid hh5
            have e2 := HT5.out.cell0
            have e3 := HT5.out.cell1
            clear hc5 hr5 hk5 hx5 hh5 hv HREG
            go_wp2_with fail
            refine HMR.out.mono ?_
            rintro e w6 ⟨rfl, hm6, hk6⟩
            have HD6 := Lib.hid (HH5.out.regd hm6 hk6)
            have HB6 : Hid (Below w.heap.size w w6) := Lib.hid (low_kept HH5.out.low HH5.out.lt hk6 HB5.out (by omega) (by omega))
            have HT6L := Lib.hid (rgT_len1 (T := T) (x := (n0, l0)))
            have HSM6 := Lib.hid (HSM.out.rg (x := (n0, l0)) hl00)
            generalize rgT T (n0, l0) = T' at *
            have HAL := Lib.hid (alike_any w6 (rc c5 w5.heap.size 0) 2 0 rb 3 (rb + 1) T' tag HD6.out.reg HD6.out.mrg (by have := HT6L.out; omega) HSM6.out ⟨by omega, by omega⟩)
            clear hm6 hk6 HMR HH5 HT5 e2 e3
            go_wp2_with fail
            refine HAL.out.mono ?_
            rintro e w7 ⟨rfl, hb7⟩
            have HD7 := Lib.hid (HD6.out.go hb7)
            have HB7 : Hid (Below w.heap.size w w7) := Lib.hid (Below.then HB6.out hb7 (Nat.le_refl _))
            clear hb7 HAL HD6 HB6
            go_wp2
            go_roundw
            case rel => exact ⟨i + 1, by omega, by go_num, Lib.hid ⟨_, T', idx', HD7.out, by have := HT6L.out; omega, HSM6.out, by omega, HB7.out⟩⟩
            case measure => simp [intOf]; omega
        · have hil' : ¬ (i : Int) < (len1 : Int) := by omega
          have hb4 : Below w3.heap.size w3 (w3.alloc (.cells #[.int .i64 n0, .slice A0 m0 cc0] 35)) := (Below.refl _ _).alloc (Nat.le_refl _) _
          have HD4 := Lib.hid (HD3.out.go hb4)
          have HTX := Lib.hid (TyB.new (w := w3) (n := n0) (A := A0) (m := m0) (c := cc0))
          have HB4 := Lib.hid (Below.then HB3.out hb4 (Nat.le_refl _))
          have HXC : Hid (∀ (W : World) (c' : Nat → Nat), Kept c4 2 (w3.alloc (.cells #[.int .i64 n0, .slice A0 m0 cc0] 35)) W → (∀ g, g < (w3.alloc (.cells #[.int .i64 n0, .slice A0 m0 cc0] 35)).heap.size → c' g = c4 g) → Below w.heap.size w W → Exs W W.heap.size A0 m0 cc0 l0) := Lib.hid (fun W c' hk hc _ => ((HE3.out.kept (j := 1) (c' := c4) (Kept.ofBelow ((Below.refl _ _).alloc (Nat.le_refl _) _)) (by omega) (fun _ _ => rfl)).kept hk (by omega) hc).1)
          clear hb4
          go_wp2_with fail
          generalize w3.alloc (.cells #[.int .i64 n0, .slice A0 m0 cc0] 35) = w4 at *
          generalize w3.heap.size = bx at *
          have HREG := Lib.hid (register_any w4 c4 2 0 rb T n0 A0 m0 cc0 l0 HD4.out.reg (by omega) (Nat.zero_le _) (HXC.out w4 c4 Kept.refl (fun _ _ => rfl) HB4.out) hm00 (by omega))
          refine HREG.out.mono ?_
          rintro e w5 ⟨c5, rfl, hc5, hr5, hk5⟩
          have hh5 := HD4.out.regd hc5 hr5 hk5
          have HB5 : Hid (Below w.heap.size w w5) := Lib.hid (low_kept HD4.out.low HD4.out.lt hk5 HB4.out (by omega) (by omega))
          have hx5 := HXC.out w5 c5 hk5 hc5 HB5.out
          have HT5 := Lib.hid (hk5.tyb HTX.out (by rw [hcx]; omega))
          have HMR := Lib.hid (registerR_any w5 c5 3 (rb + 1) T n0 A0 m0 cc0 l0 hh5.mrg (by omega) hx5 hm00 (by omega))
          obtain ⟨⟨va, ve⟩, hv⟩ : ∃ v, rgV T (n0, l0) = v := ⟨_, rfl⟩
          unfold MgE at HMR
          rw [hv] at HMR ⊢
          simp only at HMR ⊢
          have HH5 := Lib.hid hh5
          have e2 := HT5.out.cell0
          have e3 := HT5.out.cell1
          clear hc5 hr5 hk5 hx5 hh5 hv HREG
          go_wp2_with fail
          refine HMR.out.mono ?_
          rintro e w6 ⟨rfl, hm6, hk6⟩
          have HD6 := Lib.hid (HH5.out.regd hm6 hk6)
          have HB6 : Hid (Below w.heap.size w w6) := Lib.hid (low_kept HH5.out.low HH5.out.lt hk6 HB5.out (by omega) (by omega))
          have HT6L := Lib.hid (rgT_len1 (T := T) (x := (n0, l0)))
          have HSM6 := Lib.hid (HSM.out.rg (x := (n0, l0)) hl00)
          generalize rgT T (n0, l0) = T' at *
          have HAL := Lib.hid (alike_any w6 (rc c5 w5.heap.size 0) 2 0 rb 3 (rb + 1) T' tag HD6.out.reg HD6.out.mrg (by have := HT6L.out; omega) HSM6.out ⟨by omega, by omega⟩)
          clear hm6 hk6 HMR HH5 HT5 e2 e3
          go_wp2_with fail
          refine HAL.out.mono ?_
          rintro e w7 ⟨rfl, hb7⟩
          have HD7 := Lib.hid (HD6.out.go hb7)
          have HB7 : Hid (Below w.heap.size w w7) := Lib.hid (Below.then HB6.out hb7 (Nat.le_refl _))
          clear hb7 HAL HD6 HB6
          go_wp2
          go_roundw
          case rel => exact ⟨i + 1, by omega, by go_num, Lib.hid ⟨_, T', idx', HD7.out, by have := HT6L.out; omega, HSM6.out, by omega, HB7.out⟩⟩
          case measure => simp [intOf]; omega
      · obtain rfl : i = 12 := by omega
        have hi1 : ¬ ((12 : Nat) : Int) < 12 := by omega
        have HBW := Lib.hid hbw
        clear hbw hd
        go_wp2_with fail
        refine (awake10_any wr).mono ?_
        rintro e w5 ⟨rfl, hb5⟩
        have HB5 := Lib.hid (Below.then HBW.out hb5 (Nat.le_refl _))
        clear hb5
        go_wp2
        go_ret
        exact ⟨rfl, HB5.out⟩
end Go.Proofs.Ytgddlpabgeeflaa
